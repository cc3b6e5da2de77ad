import PyProof.Rows.All
import Wide.All
import OpenK.AllK
import Wide.FinOn
import Lean
import PyProof.EqAt
import PyProof.EqKinds
import PyProof.TupleCall
import KE.KSortTup
import PyProof.NeKinds
import PyProof.DictRoadsH
import PyProof.ZipIter
import KE.LcSums
import KE.KListMore
import KE.KIntText
import KE.KRevIter
import PyProof.Rows.Range3
import PyProof.StrLawsTight
import KE.KDictList
import KE.KDictLaws
import PyProof.NsDelKeeps
import KE.KMinKey
import KE.KEqDict
import PyProof.WalksEnum
import PyProof.EnumMake
import PyProof.Rows.EnumRows
import PySem.Challenge.RW_smallword_k85_lines_refused
set_option Elab.async false
set_option linter.all false
set_option maxRecDepth 100000
set_option maxHeartbeats 8000000
namespace Zz
def uT:=@List.length_map
def uU:=@List.length_cons
def uV:=@List.getElem?_eq_getElem
def uW:=@Nat.le_refl
def uX:=@List.mem_cons_of_mem
def uY:=@List.size_toArray
def uZ:=@List.map_cons
def v4:=@Bool.and_eq_true
def v5:=@Bool.false_ne_true
def v7:=@List.mem_cons_self
def v8:=@Nat.lt_of_lt_of_le
def vc:=@List.length_append
def vd:=@List.mem_cons
def vf:=@Nat.ne_of_lt
def vg:=@List.getElem?_eq_some_iff
def vh:=@Nat.le_trans
def vi:=@List.mem_of_getElem?
def vj:=@List.all_eq_true
def vk:=@Option.some.inj
def vm:=@List.mem_append_right
def vn:=@List.getElem?_map
def vo:=@List.mem_singleton
def vp:=@List.map_append
def vq:=@List.mem_filter
def vw:=@List.lookup_cons
def vx:=@List.length_take
def vy:=@Array.length_toList
def vz:=@List.length_singleton
def vA:=@Nat.lt_of_le_of_lt
def vB:=@List.append_nil
def vC:=@List.find?_cons
def vD:=@Bool.eq_iff_iff
def vE:=@Array.getElem?_toList
def vF:=@Nat.zero_le
def vG:=@List.mem_range
def vH:=@List.mem_append
def vI:=@Nat.add_le_add_left
def vJ:=@List.replicate_succ
def vK:=@Option.map_eq_some_iff
def vL:=@List.mem_map
def vM:=@Int.fdiv_eq_ediv_of_nonneg
def vN:=@List.not_mem_nil
def vO:=@List.filter_cons
def vP:=@Int.natAbs_natCast
def vQ:=@List.drop_eq_getElem_cons
def vR:=@List.length_nil
def vS:=@List.flatten_cons
def vT:=@Bool.eq_false_iff
def vU:=@List.take_length
def vV:=@List.length_drop
def vW:=@List.length_replicate
def vX:=@List.any_cons
end Zz
open Zz
namespace L2
open PySem PySem.Spec PyProof.Rows
abbrev Key:=Sum Int Str
noncomputable def eI:Key→Value→Bool
 | .inl k,v=>Value.isInt k v
 | .inr x,v=>Value.isStrOf x v
noncomputable def keyH (w:World):Key→Int
 | .inl k=>hashInt k
 | .inr x=>hashStr w x
theorem aH:∀ {k:Key} {v:Value},eI k v=true→(∃i t,k=Sum.inl i∧v=Value.int i t)∨(∃x t,k=Sum.inr x∧v=Value.str x t)
 | .inl i,v,h=>by
  obtain ⟨t,e⟩:=Value.isInt_shape (k:=i) (v:=v) h
  exact .inl ⟨i,t,rfl,e⟩
 | .inr x,v,h=>by
  obtain ⟨t,e⟩:=Value.isStrOf_shape (x:=x) (v:=v) h
  exact .inr ⟨x,t,rfl,e⟩
theorem gw (i:Int) (t:Tok):eI (.inl i) (.int i t)=true:=by simp [eI,Value.isInt]
theorem gv (x:Str) (t:Tok):eI (.inr x) (.str x t)=true:=by simp [eI,Value.isStrOf]
theorem tL (a b:Int):decide ((Sum.inl a:Key)=Sum.inl b)=(a==b):=by
 by_cases e:a=b
 · subst e;simp
 · have h:¬(Sum.inl a:Key)=Sum.inl b:=fun q=>e (Sum.inl.inj q)
   rw [decide_eq_false h]
   exact (beq_eq_false_iff_ne.mpr e).symm
theorem tI (a b:Str):decide ((Sum.inr a:Key)=Sum.inr b)=decide (a=b):=by
 by_cases e:a=b
 · subst e;simp
 · have h:¬(Sum.inr a:Key)=Sum.inr b:=fun q=>e (Sum.inr.inj q)
   rw [decide_eq_false h,decide_eq_false e]
theorem tK (a:Int) (b:Str):decide ((Sum.inl a:Key)=Sum.inr b)=false:=decide_eq_false (fun q=>nomatch q)
theorem tJ (a:Str) (b:Int):decide ((Sum.inr a:Key)=Sum.inl b)=false:=decide_eq_false (fun q=>nomatch q)
noncomputable def aV (prog:Program) (w:World):PySem.KeyKind prog w Key where
 is:=eI
 hash:=keyH w
 inj:=fun v a b ha hb=>by
  rcases aH ha with ⟨i,t,rfl,rfl⟩|⟨x,t,rfl,rfl⟩
  · rcases aH hb with ⟨j,u,rfl,e⟩|⟨y,u,rfl,e⟩
    · injection e with e1 _;rw [e1]
    · exact nomatch e
  · rcases aH hb with ⟨j,u,rfl,e⟩|⟨y,u,rfl,e⟩
    · exact nomatch e
    · injection e with e1 _;rw [e1]
 byValue:=fun k v h=>by
  rcases aH h with ⟨i,t,rfl,rfl⟩|⟨x,t,rfl,rfl⟩<;>rfl
 pyHash:=fun hv h=>by
  rcases aH hv with ⟨i,t,rfl,rfl⟩|⟨x,t,rfl,rfl⟩
  · exact wpAny_pyHash_int h
  · exact wpAny_pyHash_str h
 eqBool:=fun hu hv h=>by
  rcases aH hu with ⟨i,t,rfl,rfl⟩|⟨x,t,rfl,rfl⟩
  · rcases aH hv with ⟨j,u,rfl,rfl⟩|⟨y,u,rfl,rfl⟩
    · rw [tL] at h;exact wpAny_eqBool_int h
    · rw [tK] at h;exact SeqAt.EqAt.int_str i t y u _ _ _ _ h
  · rcases aH hv with ⟨j,u,rfl,rfl⟩|⟨y,u,rfl,rfl⟩
    · rw [tJ] at h;exact SeqAt.EqAt.str_int x t j u _ _ _ _ h
    · rw [tI] at h;exact wpAny_eqBool_str h
 «strs»:=fun k x t v h=>by
  rcases aH h with ⟨i,u,rfl,e⟩|⟨y,u,rfl,e⟩
  · exact nomatch e
  · injection e with e1 _
    subst e1
    cases v<;>rfl
theorem iP (prog:Program) (w:World) (i:Int) (t:Tok):(aV prog w).is (.inl i) (.int i t)=true:=gw i t
theorem iO (prog:Program) (w:World) (x:Str) (t:Tok):(aV prog w).is (.inr x) (.str x t)=true:=gv x t
open PySem PySem.Spec PyProof.Rows
inductive V where
 |non|bl (b:Bool)|int (i:Int)|str (x:Str)|byt (b:Array UInt8)|flt (b:UInt64)|ref (a:Addr)|ty (n:String)
 deriving DecidableEq
def RelV:V→Value→Prop
 | .non,u=>u=Value.none
 | .bl b,u=>u=Value.bool b
 | .int i,u=>∃t,u=Value.int i t
 | .str x,u=>∃t,u=Value.str x t
 | .byt b,u=>∃t,u=Value.bytes b t
 | .flt b,u=>∃t,u=Value.float b t
 | .ref a,u=>u=Value.ref a
 | .ty n,u=>u=Value.type n
abbrev Vals:List V→List Value→Prop:=Paired RelV
theorem Vals.length {xs:List V} {us:List Value} (r:Vals xs us):xs.length=us.length:=Paired.length r
theorem Vals.get:∀ {xs:List V} {us:List Value} {i:Nat} {x:V},Vals xs us→xs[i]?=some x→∃u,us[i]?=some u∧RelV x u
 |_,_,_,_, .nil,e=>by simp at e
 |_,_,0,_, .cons r _,e=>by simp at e;subst e;exact ⟨_,rfl,r⟩
 |_,_,i+1,x, .cons _ t,e=>by
  obtain ⟨u,h1,h2⟩:=Vals.get (i:=i) (x:=x) t (by simpa using e)
  exact ⟨u,by simpa using h1,h2⟩
theorem Vals.set {x:V} {u:Value} (r:RelV x u):∀ {xs:List V} {us:List Value} (i:Nat),Vals xs us→Vals (xs.set i x) (us.set i u)
 |_,_,_, .nil=> .nil
 |_,_,0, .cons _ t=> .cons r t
 |_,_,i+1, .cons q t=> .cons q (Vals.set r i t)
theorem Vals.append:∀ {xs ys:List V} {us ws:List Value},Vals xs us→Vals ys ws→Vals (xs++ys) (us++ws)
 |_,_,_,_, .nil,s=>s
 |_,_,_,_, .cons r t,s=> .cons r (Vals.append t s)
theorem Vals.take:∀ {xs:List V} {us:List Value} (n:Nat),Vals xs us→Vals (xs.take n) (us.take n)
 |_,_,0,_=> .nil
 |_,_,_+1, .nil=> .nil
 |_,_,n+1, .cons r t=> .cons r (Vals.take n t)
theorem Vals.drop:∀ {xs:List V} {us:List Value} (n:Nat),Vals xs us→Vals (xs.drop n) (us.drop n)
 |_,_,0,r=>r
 |_,_,_+1, .nil=> .nil
 |_,_,n+1, .cons _ t=>Vals.drop n t
def RelO:Option V→Option Value→Prop
 |some v,some u=>RelV v u
 |none,none=>True
 |_,_=>False
def KV {κ:Type}:List (κ×V)→List (κ×Value)→Prop:=Paired fun (p:κ×V) (q:κ×Value)=>p.1=q.1∧RelV p.2 q.2
def kV:Key→V
 | .inl i=> .int i
 | .inr x=> .str x
inductive HO where
 |lst (xs:List V)
 |tup (xs:List V)
 |dK (kvs:List (Key×V))|dT (kvs:List (List Key×V))
 |set (S:Int→Bool) (n:Nat)
 |ins (C dx:Addr) (fs:List (Str×V))
 |own (x:Addr)
 |xd (fs:List (Str×V))
 |met (f x:Addr)
 |rng (lo hi:Int)
 |frz (o:Obj) (u:HO)
 |tbl (ps:Array Value)
 |ext (φ:Heap→Prop)
abbrev Hp:=Addr→Option HO
noncomputable def upd (H:Hp) (a:Addr) (o:HO):Hp:=fun b=>if b=a then some o else H b
theorem aa {H:Hp} {a:Addr} {o:HO}:upd H a o a=some o:=by unfold upd;rw [if_pos rfl]
theorem aj {H:Hp} {a b:Addr} {o:HO} (h:b≠a):upd H a o b=H b:=by unfold upd;rw [if_neg h]
theorem pS {H:Hp} {a:Addr} {o u:HO}:upd (upd H a o) a u=upd H a u:=by
 funext b;unfold upd;split<;>rfl
theorem uH {H:Hp} {a b:Addr} {o u:HO} (h:H a=some o) (h':H b=some u) (d:o≠u):a≠b:=by
 intro e;subst e;rw [h] at h';exact d (vk h')
theorem aI {H:Hp} {a b:Addr} {o:HO} (h:H a=some o) (h':H b=none):a≠b:=by
 intro e;subst e;rw [h] at h';cases h'
section
variable (P:Program) (w:World)
def ObjOk (H:Hp) (h:Heap) (a:Addr):HO→Prop
 | .lst xs=>xs.length≤sizeLine∧∃(its:List Value) (n:Nat),Vals xs its∧h.get? a=some {cls:= .type "list",data:= .seq its.toArray n}
 | .tup xs=>xs.length≤sizeLine∧∃its:List Value,Vals xs its∧IsTup h a its.toArray
 | .dK kvs=>kvs.length≤sizeLine∧(a==sysModules)=false∧∃vs,KV kvs vs∧h.DictOf (aV P w) a vs
 | .dT kvs=>kvs.length≤sizeLine∧(a==sysModules)=false∧∃xs:List (List Key×Addr×Value),
  Paired (fun (p:List Key×V) (q:List Key×Addr×Value)=>p.1=q.1∧H q.2.1=some (.tup (p.1.map kV))∧RelV p.2 q.2.2) kvs xs∧
  ∃o es ep,h.get? a=some o∧o.ExactDict∧o.data= .dict es ep∧es.toList=xs.map (entryOfKey (tupleKind (aV P w)))∧(xs.map (·.1)).Nodup
 | .set S n=>h.SetOf (intKind P w) a S n
 | .ins C dx fs=>H dx=some (.own a)∧fs.length≤1000∧dx≠a∧h.get? a=some (PySem.W.instObj C dx)∧
  ∃mA,h.Ns1 dx mA∧(∀f,RelO (fs.lookup f) (mA f))∧PySem.Within mA (fs.map (·.1))
 | .own _=>∃o,h.get? a=some o
 | .xd fs=>∃mA,h.Ns1 a mA∧∀f,RelO (fs.lookup f) (mA f)
 | .rng lo hi=>∃t u v,h.get? a=some {cls:= .type "range",data:= .fields #[.int lo t, .int hi u, .int 1 v]}
 | .frz o u=>h.get? a=some o∧ObjOk H h a u
 | .tbl ps=>h.get? a=some {cls:= .none,data:= .fields ps}
 | .met f x=>h.get? a=some (PySem.W.methodObj (.ref f) (.ref x))
 | .ext φ=>φ h∧(∃o,h.get? a=some o)∧∀h1 h2:Heap,φ h1→(∀o,h1.get? a=some o→h2.get? a=some o)→φ h2
def HOk (H:Hp) (h:Heap):Prop:=∀a o,H a=some o→ObjOk P w H h a o
end
section
variable {P:Program} {w:World} {H H':Hp} {h h':Heap} {a:Addr} {o:HO}
theorem ObjOk.lt (x:ObjOk P w H h a o):a < h.objs.size:=by
 cases o with
 |lst xs=>obtain ⟨_,_,_,_,e⟩:=x;exact Heap.lt_size e
 |tup xs=>obtain ⟨_,_,_,p⟩:=x;exact p.lt
 |dK kvs=>obtain ⟨_,_,_,_,o,_,_,e,_⟩:=x;exact Heap.lt_size e
 |dT kvs=>obtain ⟨_,_,_,_,o,_,_,e,_⟩:=x;exact Heap.lt_size e
 |set S n=>obtain ⟨o,_,_,_,e,_⟩:=x;exact Heap.lt_size e
 |ins C dx fs=>obtain ⟨_,_,_,e,_⟩:=x;exact Heap.lt_size e
 |own y=>obtain ⟨_,e⟩:=x;exact Heap.lt_size e
 |xd fs=>obtain ⟨_,⟨_,_,_,e,_⟩,_⟩:=x;exact Heap.lt_size e
 |rng lo hi=>obtain ⟨_,_,_,e⟩:=x;exact Heap.lt_size e
 |frz ob u=>obtain ⟨e,_⟩:=x;exact Heap.lt_size e
 |tbl ps=>exact Heap.lt_size (show h.get? a=some _ from x)
 |met f y=>exact Heap.lt_size (show h.get? a=some _ from x)
 |ext φ=>obtain ⟨_,⟨_,e⟩,_⟩:=x;exact Heap.lt_size e
theorem Paired.mapP {α β:Type} {F G:α→β→Prop}:∀ {l₁:List α} {l₂:List β},Paired F l₁ l₂→(∀a b,F a b→G a b)→Paired G l₁ l₂
 |_,_, .nil,_=> .nil
 |_,_, .cons r t,f=> .cons (f _ _ r) (Paired.mapP t f)
theorem ObjOk.stay (x:ObjOk P w H h a o) (k:∀b u,(b=a∨H b=some (.own a))→h.get? b=some u→h'.get? b=some u)
 (ho:∀b,H b=some (.own a)→H' b=some (.own a)) (ht:∀b xs,H b=some (.tup xs)→H' b=some (.tup xs)):ObjOk P w H' h' a o:=by
 induction o with
 |lst xs=>obtain ⟨z,its,n,r,e⟩:=x;exact ⟨z,its,n,r,k _ _ (.inl rfl) e⟩
 |tup xs=>obtain ⟨z,its,r,ob,e,c⟩:=x;exact ⟨z,its,r,ob,k _ _ (.inl rfl) e,c⟩
 |dK kvs=>obtain ⟨z,y,vs,r,ob,es,ep,e,c⟩:=x;exact ⟨z,y,vs,r,ob,es,ep,k _ _ (.inl rfl) e,c⟩
 |dT kvs=>
  obtain ⟨z,y,xs,r,ob,es,ep,e,c⟩:=x
  exact ⟨z,y,xs,Paired.mapP r fun p q z=>⟨z.1,ht _ _ z.2.1,z.2.2⟩,ob,es,ep,k _ _ (.inl rfl) e,c⟩
 |set S n=>obtain ⟨ob,es,ep,t,e,c⟩:=x;exact ⟨ob,es,ep,t,k _ _ (.inl rfl) e,c⟩
 |ins C dx fs=>
  obtain ⟨d,z,ne,e,mA,⟨od,es,ep,e2,c⟩,r⟩:=x
  exact ⟨ho _ d,z,ne,k _ _ (.inl rfl) e,mA,⟨od,es,ep,k _ _ (.inr d) e2,c⟩,r⟩
 |own y=>obtain ⟨ob,e⟩:=x;exact ⟨ob,k _ _ (.inl rfl) e⟩
 |xd fs=>obtain ⟨mA,⟨od,es,ep,e,c⟩,r⟩:=x;exact ⟨mA,⟨od,es,ep,k _ _ (.inl rfl) e,c⟩,r⟩
 |rng lo hi=>obtain ⟨t,u,v,e⟩:=x;exact ⟨t,u,v,k _ _ (.inl rfl) e⟩
 |frz ob u ih=>obtain ⟨e,q⟩:=x;exact ⟨k _ _ (.inl rfl) e,ih q⟩
 |tbl ps=>
  have e:h.get? a=some {cls:= .none,data:= .fields ps}:=x
  show h'.get? a=some {cls:= .none,data:= .fields ps}
  exact k a _ (.inl rfl) e
 |met f y=>
  have e:h.get? a=some (PySem.W.methodObj (.ref f) (.ref y)):=x
  show h'.get? a=some (PySem.W.methodObj (.ref f) (.ref y))
  exact k a _ (.inl rfl) e
 |ext φ=>obtain ⟨p,⟨o,e⟩,st⟩:=x;exact ⟨st _ _ p fun o q=>k _ _ (.inl rfl) q,⟨o,k _ _ (.inl rfl) e⟩,st⟩
theorem HOk.lt (x:HOk P w H h) (e:H a=some o):a < h.objs.size:=(x a o e).lt
theorem HOk.fresh (x:HOk P w H h) (e:h.objs.size≤a):H a=none:=by
 cases q:H a with
 |none=>rfl
 |some u=>exact absurd (v8 (x.lt q) e) (Nat.lt_irrefl _)
theorem HOk.kept (x:HOk P w H h) (k:∀b u,h.get? b=some u→h'.get? b=some u):HOk P w H h':=fun a o e=>
 (x a o e).stay (fun b u _ q=>k b u q) (fun _ q=>q) fun _ _ q=>q
theorem HOk.laid (x:HOk P w H h) (k:∀b u,h.get? b=some u→h'.get? b=some u) (hp:h.objs.size≤a) (new:ObjOk P w (upd H a o) h' a o):HOk P w (upd H a o) h':=fun b u e=>by
 have hn:=x.fresh hp
 by_cases hb:b=a
 · subst hb;rw [aa] at e;cases e;exact new
 · rw [aj hb] at e
   exact (x b u e).stay (fun c v _ q=>k c v q) (fun c q=>by rw [aj (aI q hn)];exact q) fun c xs q=>by rw [aj (aI q hn)];exact q
end
def Rd (H:Hp) (a:Addr) (u:HO):Prop:=H a=some u∨∃o,H a=some (.frz o u)
theorem Rd.ok {P:Program} {w:World} {H:Hp} {h:Heap} {a:Addr} {u:HO} (r:Rd H a u) (x:HOk P w H h):ObjOk P w H h a u:=by
 rcases r with r|⟨o,r⟩
 · exact x a u r
 · obtain ⟨_,q⟩:=x a _ r
   exact q
def Mut:Option HO→Prop
 |some (.lst _)=>True
 |some (.dK _)=>True
 |some (.dT _)=>True
 |some (.set _ _)=>True
 |some (.ins _ _ _)=>True
 |some (.ext _)=>True
 |_=>False
section
variable {P:Program} {w:World} {H:Hp} {h h':Heap} {x e:Addr} {o':HO}
theorem HOk.write (ok:HOk P w H h) (mu:Mut (H x)) (he:e=x∨H e=some (.own x)) (k:∀b u,b≠e→h.get? b=some u→h'.get? b=some u) (heo:∃u,h'.get? e=some u)
 (new:ObjOk P w (upd H x o') h' x o'):HOk P w (upd H x o') h':=fun b u q=>by
 have nown:∀c y,H c=some (.own y)→c≠x:=fun c y r z=>by subst z;rw [r] at mu;exact mu
 have ntup:∀c xs,H c=some (.tup xs)→c≠x:=fun c xs r z=>by subst z;rw [r] at mu;exact mu
 by_cases hb:b=x
 · subst hb;rw [aa] at q;cases q;exact new
 · rw [aj hb] at q
   by_cases hbe:b=e
   · have q':H b=some (.own x):=by
      rcases he with z|z
      · exact absurd (hbe.trans z) hb
      · rw [hbe];exact z
     rw [q] at q';cases q'
     obtain ⟨v,hv⟩:=heo
     exact ⟨v,by rw [hbe];exact hv⟩
   · refine (ok b u q).stay (fun c v hc r=>k c v ?_ r) (fun c r=>by rw [aj (nown c b r)];exact r) fun c xs r=>by rw [aj (ntup c xs r)];exact r
     rcases hc with rfl|hc
     · exact hbe
     · rintro rfl
       rcases he with z|z
       · exact nown c b hc z
       · rw [hc] at z;cases z;exact hb rfl
end
def Idl (x:Option HO):Prop:=x=none∨∃xs,x=some (.tup xs)
theorem Idl.no {x:Option HO} (h:x=none):Idl x:= .inl h
structure Un (fs ex:List Addr) (H H':Hp) (h h':Heap):Prop where
 keep:∀b o,h.get? b=some o→Idl (H b)→b∉fs→b∉ex→h'.get? b=some o
 slot:∀b o,h.get? b=some o→H b=none→b∈fs→b∉ex→∃sl,h'.get? b=some {o with slots:=sl}
 free:∀b o,h.get? b=some o→H b=none→b∉ex→H' b=none
 there:∀b o,h.get? b=some o→b∉ex→∃o',h'.get? b=some o'
 tups:∀b xs,H b=some (.tup xs)→H' b=some (.tup xs)
 frzs:∀b o u,H b=some (.frz o u)→H' b=some (.frz o u)
 tbls:∀b ps,H b=some (.tbl ps)→∃more,H' b=some (.tbl (ps++more))
section
variable {fs fs' ex ex':List Addr} {H H1 H2:Hp} {h h1 h2 h':Heap} {a x e:Addr} {o:HO}
theorem Un.any (u:Un fs ex H H1 h h1) {b:Addr} {ob:Obj} (q:h.get? b=some ob) (n:H b=none) (hx:b∉ex):∃sl,h1.get? b=some {ob with slots:=sl}:=by
 by_cases hb:b∈fs
 · exact u.slot b ob q n hb hx
 · exact ⟨ob.slots,u.keep b ob q (.inl n) hb hx⟩
theorem Un.idl (u:Un fs ex H H1 h h1) {b:Addr} {ob:Obj} (q:h.get? b=some ob) (n:Idl (H b)) (hx:b∉ex):Idl (H1 b):=by
 rcases n with n|⟨xs,n⟩
 · exact .inl (u.free b ob q n hx)
 · exact .inr ⟨xs,u.tups b xs n⟩
theorem Un.trans (a:Un fs ex H H1 h h1) (b:Un fs ex H1 H2 h1 h2):Un fs ex H H2 h h2 where
 keep:=fun c ob q n hc hx=>b.keep c ob (a.keep c ob q n hc hx) (a.idl q n hx) hc hx
 slot:=fun c ob q n hc hx=>by
  obtain ⟨sl,e1⟩:=a.slot c ob q n hc hx
  obtain ⟨sl',e2⟩:=b.slot c _ e1 (a.free c ob q n hx) hc hx
  exact ⟨sl',e2⟩
 free:=fun c ob q n hx=>by
  obtain ⟨o',e1⟩:=a.there c ob q hx
  exact b.free c o' e1 (a.free c ob q n hx) hx
 there:=fun c ob q hx=>by
  obtain ⟨o',e1⟩:=a.there c ob q hx
  exact b.there c o' e1 hx
 tups:=fun c xs q=>b.tups c xs (a.tups c xs q)
 frzs:=fun c ob xs q=>b.frzs c ob xs (a.frzs c ob xs q)
 tbls:=fun c ps q=>by
  obtain ⟨m1,e1⟩:=a.tbls c ps q
  obtain ⟨m2,e2⟩:=b.tbls c _ e1
  exact ⟨m1++m2,by rw [e2,Array.append_assoc]⟩
theorem Un.kept (k:∀b u,h.get? b=some u→h'.get? b=some u):Un fs ex H H h h':=
 ⟨fun b ob q _ _ _=>k b ob q,fun b ob q _ _ _=>⟨ob.slots,k b ob q⟩,fun _ _ _ n _=>n,fun b ob q _=>⟨ob,k b ob q⟩,fun _ _ q=>q,fun _ _ _ q=>q,fun _ ps q=>⟨#[],by rw [q];simp⟩⟩
theorem Un.refl:Un fs ex H H h h:=Un.kept fun _ _ q=>q
theorem Un.laid (k:∀b u,h.get? b=some u→h'.get? b=some u) (hp:h.objs.size≤a) (hn:H a=none):Un fs ex H (upd H a o) h h' where
 keep:=fun b u q _ _ _=>k b u q
 slot:=fun b u q _ _ _=>⟨u.slots,k b u q⟩
 free:=fun b u q n _=>by rw [aj (vf (v8 (Heap.lt_size q) hp))];exact n
 there:=fun b u q _=>⟨u,k b u q⟩
 tups:=fun b xs q=>by rw [aj (aI q hn)];exact q
 frzs:=fun b u xs q=>by rw [aj (aI q hn)];exact q
 tbls:=fun b ps q=>⟨#[],by rw [aj (aI q hn),q];simp⟩
theorem Un.write (mu:Mut (H x)) (he:e=x∨H e=some (.own x)) (k:∀b u,b≠e→h.get? b=some u→h'.get? b=some u) (heo:∃u,h'.get? e=some u):Un fs ex H (upd H x o) h h':=by
 have hx:∀b,H b=none→b≠x:=fun b n z=>by subst z;rw [n] at mu;exact mu
 have hb:∀b,H b=none→b≠e:=fun b n z=>by
  subst z
  rcases he with r|r
  · exact hx b n r
  · rw [n] at r;cases r
 have hi:∀b,Idl (H b)→b≠e:=fun b n z=>by
  rcases n with n|⟨xs,n⟩
  · exact hb b n z
  · subst z
    rcases he with r|r
    · subst r
      rw [n] at mu
      exact mu
    · rw [n] at r;cases r
 have hm:∀b u,H b=some u→¬Mut (some u)→b≠x:=fun b u q nm z=>by subst z;rw [q] at mu;exact nm mu
 refine ⟨fun b u q n _ _=>k b u (hi b n) q,fun b u q n _ _=>⟨u.slots,k b u (hb b n) q⟩,fun b u q n _=>by rw [aj (hx b n)];exact n,fun b u q _=> ?_,
  fun b xs q=>by rw [aj (hm b _ q fun z=>z)];exact q,fun b u xs q=>by rw [aj (hm b _ q fun z=>z)];exact q,fun b ps q=>⟨#[],by rw [aj (hm b _ q fun z=>z),q];simp⟩⟩
 by_cases hbe:b=e
 · subst hbe;exact heo
 · exact ⟨u,k b u hbe q⟩
end
noncomputable def trk (h:Heap) (H:Hp):List Addr:=(List.range h.objs.size).filter fun a=>(H a).isSome
noncomputable def hidT (h:Heap) (H:Hp):Heap:=PySem.W.hideAll h (trk h H)
theorem mj (h:Heap) (H:Hp):(hidT h H).objs.size=h.objs.size:=PySem.W.hideAll_size _ _
theorem oZ {h:Heap} {H:Hp} {b:Addr} {o:Obj} (e:h.get? b=some o) (n:H b=none):(hidT h H).get? b=some o:=
 PySem.W.hideAll_get _ e fun hm=>by
  have q:(H b).isSome=true:=(vq.mp hm).2
  rw [n] at q;simp at q
theorem ki {h:Heap} {H:Hp} {b:Addr} {o:Obj} (e:(hidT h H).get? b=some o):h.get? b=some o∧H b=none:=by
 have e':h.get? b=some o:=PySem.W.of_hideAll (trk h H) e
 refine ⟨e',?_⟩
 cases q:H b with
 |none=>rfl
 |some x=>
  have hm:b∈trk h H:=vq.mpr ⟨vG.mpr (Heap.lt_size e'),by simp [q]⟩
  have z:(hidT h H).get? b=none:=PySem.W.hideAll_none (trk h H) hm
  rw [z] at e;cases e
noncomputable def rl (g h:Heap) (L:Addr):List (Addr×Obj):=(List.range h.objs.size).filterMap fun a=>if a=L∨(g.get? a).isSome=true then none else (h.get? a).map fun o=>(a,o)
noncomputable def rest (g h:Heap) (L d:Addr):List (Addr×Obj):=(rl g h L).filter fun p=>decide (p.1≠d)
open PySem PySem.Spec PyProof.Rows
structure Mod (K:PySem.W.Frag) (mg:Str→Option Value) (base:Heap):Prop where
 kin:K.In base
 glob:base.Ns mainGlobals mg
 blt:∃mb,base.Ns builtinsNs mb∧∀x:Str,x≠"__name__"→mb x=bootBuiltins x
 nolimit:base.NoLimit
structure Cx where
 prog:Program
 w:World
 K:PySem.W.Frag
 mg:Str→Option Value
 base:Heap
 A:Around
 N:List Str
 s₀:Shared
 H₀:Hp
 env:Env
 outer:List Env
 stack:List Env
 ex:List Addr
 fn:Str→Bool
 calm:Bool
 pn:List (Addr×Obj)
 xe:Value→Shared→Prop
def frs (l:List Env):List Addr:=l.filterMap (·.frame)
abbrev Cx.fs (X:Cx):List Addr:=frs X.outer
def Vis (sc:Scope) (x:Str):Prop:=sc.names.lookup x=some .local∨sc.names.lookup x=some .cell∨sc.names.lookup x=some .free
def Loc (sc:Scope) (x:Str):Prop:=sc.names.lookup x=some .local∨sc.names.lookup x=some .cell
def Look (env:Env) (h:Heap) (m:Str→Option Value) (x:Str) (u:Value):Prop:=
 (env.kindOf x=some .local∧m x=some u)∨((env.kindOf x=some .cell∨env.kindOf x=some .free)∧∃c,env.cells.lookup x=some c∧h.IsCell c (some u))
structure Cx.Ok (X:Cx):Prop where
 mod:Mod X.K X.mg X.base
 kind:X.env.scope.kind= .function
 glob:X.env.globals=mainGlobals
 blt:X.env.builtins=builtinsNs
 above:X.s₀.heap.objs.size≤X.env.locals
 inj:∀x y c,X.env.cells.lookup x=some c→X.env.cells.lookup y=some c→x=y
 has:∀x,(X.env.kindOf x=some .cell∨X.env.kindOf x=some .free)→∃c,X.env.cells.lookup x=some c
 cab:∀x c,X.fn x=true→X.env.cells.lookup x=some c→X.s₀.heap.objs.size≤c
 hd:X.calm=true→X.A.handled=none
 frames:X.A.frames=some X.stack
 stk:X.stack=X.outer∨(X.stack=X.env::X.outer∧X.env.frame=some X.env.locals)
 exf:∀b∈X.ex,b≠X.env.locals∧∀x c,X.env.cells.lookup x=some c→c≠b
 bs:∀b o,X.base.get? b=some o→X.s₀.heap.get? b=some o∧Idl (X.H₀ b)
 bsz:X.base.objs.size≤X.s₀.heap.objs.size
 noex:∀b o,X.base.get? b=some o→b∉X.ex
 exfs:∀b∈X.ex,b∉X.fs
 funs:X.s₀.heap.FunFrames X.base X.outer
 frf:∀b∈X.fs,X.H₀ b=none
structure Inv (X:Cx) (pins:List (Addr×Obj)) (σ:List (Option V)) (H:Hp) (s:Shared):Prop where
 ok:X.Ok
 os:s.os=X.s₀.os
 bare:AllBare s.gens
 base:Un X.fs X.ex X.H₀ H X.s₀.heap s.heap
 loc:∃m,s.heap.Ns X.env.locals m∧∀(i:Nat) (x:Str) (v:V),X.N[i]?=some x→σ[i]?=some (some v)→Vis X.env.scope x→∃u,RelV v u∧Look X.env s.heap m x u
 cell:∀x c,X.env.cells.lookup x=some c→∃v,s.heap.IsCell c v
 free:H X.env.locals=none
 freeC:∀x c,X.env.cells.lookup x=some c→H c=none
 pin:∀p∈X.pn++pins,s.heap.get? p.1=some p.2∧H p.1=none∧p.1≠X.env.locals∧p.1∉X.fs∧∀v,p.2.data≠ .cell v
 hok:HOk X.prog X.w H s.heap
 len:σ.length=X.N.length
section
variable {X:Cx} {pins:List (Addr×Obj)} {σ:List (Option V)} {H H':Hp} {s:Shared} {h':Heap}
theorem Cx.Ok.nofr (ok:X.Ok) {b:Addr} {o:Obj} (e:X.base.get? b=some o):b∉X.fs:=fun hb=>by
 have:=(ok.funs.mem hb).1
 rw [e] at this;cases this
theorem Inv.bs (I:Inv X pins σ H s):∀b o,X.base.get? b=some o→s.heap.get? b=some o∧Idl (H b):=fun b o e=>
 ⟨I.base.keep b o (I.ok.bs b o e).1 (I.ok.bs b o e).2 (I.ok.nofr e) (I.ok.noex b o e),I.base.idl (I.ok.bs b o e).1 (I.ok.bs b o e).2 (I.ok.noex b o e)⟩
theorem Inv.bk (I:Inv X pins σ H s):∀b o,X.base.get? b=some o→s.heap.get? b=some o:=fun b o e=>(I.bs b o e).1
theorem Inv.mod (I:Inv X pins σ H s):Mod X.K X.mg X.base:=I.ok.mod
theorem Inv.kIn (I:Inv X pins σ H s):X.K.In s.heap:=I.ok.mod.kin.keeps I.bk
theorem Inv.nolimit (I:Inv X pins σ H s):s.heap.NoLimit:=I.ok.mod.nolimit.keeps I.bk
theorem Inv.fr (I:Inv X pins σ H s):∃m,Fr X.base X.env.locals s.heap m:=
 let ⟨m,hn,_⟩:=I.loc
 ⟨m,hn,I.bk,vh I.ok.bsz I.ok.above⟩
theorem Inv.lt (I:Inv X pins σ H s):X.env.locals < s.heap.objs.size:=let ⟨_,hn,_⟩:=I.loc;hn.lt
theorem Inv.sz (I:Inv X pins σ H s):X.s₀.heap.objs.size≤s.heap.objs.size:=vh I.ok.above (Nat.le_of_lt I.lt)
theorem Inv.nofs (I:Inv X pins σ H s) {a:Addr} (h:s.heap.objs.size≤a):a∉X.fs:=fun hb=>by
 obtain ⟨_,o,ho,_⟩:=I.ok.funs.mem hb
 exact absurd (v8 (Heap.lt_size ho) (vh I.sz h)) (Nat.lt_irrefl _)
theorem Inv.cne (I:Inv X pins σ H s):∀x c,X.env.cells.lookup x=some c→c≠X.env.locals:=fun x c e z=>by
 obtain ⟨v,o,ho,hd⟩:=I.cell x c e
 obtain ⟨m,⟨o',es,ep,ho',hd',_⟩,_⟩:=I.loc
 rw [z,ho'] at ho;cases ho;rw [hd'] at hd;cases hd
theorem Inv.funs (I:Inv X pins σ H s):s.heap.FunFrames X.base X.outer:=by
 have all:∀(l:List Env),(∀b∈frs l,b∈X.fs)→X.s₀.heap.FunFrames X.base l→s.heap.FunFrames X.base l:=by
  intro l
  induction l with
  |nil=>intro _ _;trivial
  |cons env r ih=>
   intro hs hl
   obtain ⟨hk,⟨L,o,hf,hn,ho,hd⟩,hr⟩:=hl
   have hL:L∈X.fs:=hs L (by unfold frs;rw [List.filterMap_cons,hf];exact v7)
   obtain ⟨sl,e⟩:=I.base.slot L o ho (I.ok.frf L hL) hL fun z=>I.ok.exfs L z hL
   exact ⟨hk,⟨L,_,hf,hn,e,hd⟩,ih (fun b hb=>hs b (by unfold frs;rw [List.filterMap_cons,hf];exact uX _ hb)) hr⟩
 exact all X.outer (fun _ hb=>hb) I.ok.funs
theorem Inv.stack (I:Inv X pins σ H s):s.heap.FunFrames X.base X.stack:=by
 rcases I.ok.stk with e|⟨e,hf⟩
 · rw [e];exact I.funs
 · rw [e]
   obtain ⟨m,hn,_⟩:=I.loc
   refine .cons (by rw [I.ok.kind];decide) hf hn ?_ I.funs
   exact Heap.get?_none_of_le (vh I.ok.bsz I.ok.above)
theorem Inv.stkSub (I:Inv X pins σ H s):∀b∈frs X.stack,b∈X.env.locals::X.fs:=fun b hb=>by
 rcases I.ok.stk with e|⟨e,hf⟩
 · rw [e] at hb;exact uX _ hb
 · rw [e] at hb
   unfold frs at hb
   rw [List.filterMap_cons,hf] at hb
   exact hb
theorem Inv.stkFree (I:Inv X pins σ H s):∀b∈frs X.stack,H b=none:=fun b hb=>by
 rcases vd.mp (I.stkSub b hb) with e|hb
 · rw [e];exact I.free
 · obtain ⟨_,o,ho,_⟩:=I.ok.funs.mem hb
   exact I.base.free b o ho (I.ok.frf b hb) fun z=>I.ok.exfs b z hb
theorem Inv.step {g':Array GenState} {t':Nat} {d':Drawn} {ch:List Addr} (I:Inv X pins σ H s)
 (hch:∀b∈ch,(b∈X.ex∨X.s₀.heap.objs.size≤b)∧b≠X.env.locals∧(∀x c,X.env.cells.lookup x=some c→c≠b)∧∀p∈X.pn++pins,p.1≠b)
 (keep:∀b o,b≠X.env.locals→b∉X.fs→b∉ch→s.heap.get? b=some o→Idl (H b)→h'.get? b=some o)
 (slot:∀b o,b≠X.env.locals→b∈X.fs→b∉ch→s.heap.get? b=some o→H b=none→∃sl,h'.get? b=some {o with slots:=sl}) (free:∀b o,b∉ch→s.heap.get? b=some o→H b=none→H' b=none)
 (there:∀b o,b∉ch→s.heap.get? b=some o→∃o',h'.get? b=some o')
 (tups:∀b xs,H b=some (.tup xs)→H' b=some (.tup xs)) (frzs:∀b o u,H b=some (.frz o u)→H' b=some (.frz o u)) (tbls:∀b ps,H b=some (.tbl ps)→∃more,H' b=some (.tbl (ps++more)))
 (ns:∀m,s.heap.Ns X.env.locals m→h'.Ns X.env.locals m) (hok:HOk X.prog X.w H' h') (hg:AllBare g'):
 Inv X pins σ H' {s with heap:=h',gens:=g',drawn:=d',toks:=t'}:=by
 have neL:∀b o,X.s₀.heap.get? b=some o→b≠X.env.locals:=fun b o e=>vf (v8 (Heap.lt_size e) I.ok.above)
 have neC:∀b o,X.s₀.heap.get? b=some o→b∉X.ex→b∉ch:=fun b o e hx hb=>by
  rcases (hch b hb).1 with z|z
  · exact hx z
  · exact absurd (v8 (Heap.lt_size e) z) (Nat.lt_irrefl _)
 have cellK:∀x c,X.env.cells.lookup x=some c→∀v,s.heap.IsCell c v→h'.IsCell c v:=fun x c e v ⟨o,ho,hd⟩=>by
  have nch:c∉ch:=fun z=>(hch c z).2.2.1 x c e rfl
  by_cases hc:c∈X.fs
  · obtain ⟨sl,q⟩:=slot c o (I.cne x c e) hc nch ho (I.freeC x c e)
    exact ⟨_,q,hd⟩
  · exact ⟨o,keep c o (I.cne x c e) hc nch ho (.inl (I.freeC x c e)),hd⟩
 refine ⟨I.ok,I.os,hg,⟨fun b o e n hb hx=> ?_,fun b o e n hb hx=> ?_,fun b o e n hx=> ?_,fun b o e hx=> ?_,fun b xs e=>tups b xs (I.base.tups b xs e),fun b o xs e=>frzs b o xs (I.base.frzs b o xs e),fun b ps e=> ?_⟩,?_,fun x c e=> ?_,?_,fun x c e=> ?_,fun p hp=> ?_,hok,I.len⟩
 · exact keep b o (neL b o e) hb (neC b o e hx) (I.base.keep b o e n hb hx) (I.base.idl e n hx)
 · obtain ⟨sl,e1⟩:=I.base.slot b o e n hb hx
   obtain ⟨sl',e2⟩:=slot b _ (neL b o e) hb (neC b o e hx) e1 (I.base.free b o e n hx)
   exact ⟨sl',e2⟩
 · obtain ⟨o',e1⟩:=I.base.there b o e hx
   exact free b o' (neC b o e hx) e1 (I.base.free b o e n hx)
 · obtain ⟨o',e1⟩:=I.base.there b o e hx
   exact there b o' (neC b o e hx) e1
 · obtain ⟨m1,e1⟩:=I.base.tbls b ps e
   obtain ⟨m2,e2⟩:=tbls b _ e1
   exact ⟨m1++m2,by rw [e2,Array.append_assoc]⟩
 · obtain ⟨m,hn,hl⟩:=I.loc
   refine ⟨m,ns m hn,fun i x v e1 e2 e3=> ?_⟩
   obtain ⟨u,r,l⟩:=hl i x v e1 e2 e3
   refine ⟨u,r,?_⟩
   rcases l with l|⟨k,c,e,z⟩
   · exact .inl l
   · exact .inr ⟨k,c,e,cellK x c e _ z⟩
 · obtain ⟨v,z⟩:=I.cell x c e
   exact ⟨v,cellK x c e v z⟩
 · obtain ⟨m,⟨o,_,_,ho,_⟩,_⟩:=I.loc
   exact free _ o (fun z=>(hch _ z).2.1 rfl) ho I.free
 · obtain ⟨v,o,ho,hd⟩:=I.cell x c e
   exact free c o (fun z=>(hch c z).2.2.1 x c e rfl) ho (I.freeC x c e)
 · obtain ⟨e,n,ne,nf,d⟩:=I.pin p hp
   have nch:p.1∉ch:=fun z=>(hch p.1 z).2.2.2 p hp rfl
   exact ⟨keep p.1 p.2 ne nf nch e (.inl n),free p.1 p.2 nch e n,ne,nf,d⟩
theorem Inv.un {t':Nat} (I:Inv X pins σ H s) (u:Un X.fs [] H H' s.heap h') (hok:HOk X.prog X.w H' h'):Inv X pins σ H' {s with heap:=h',toks:=t'}:=by
 obtain ⟨m,⟨o,es,ep,ho,r⟩,_⟩:=id I.loc
 obtain ⟨sl,hL⟩:=u.any ho I.free (by simp)
 exact I.step (g':=s.gens) (d':=s.drawn) (ch:= []) (fun _ z=>nomatch z) (fun b o _ hb _ e n=>u.keep b o e n hb (by simp)) (fun b o _ hb _ e n=>u.slot b o e n hb (by simp)) (fun b o _ e n=>u.free b o e n (by simp)) (fun b o _ e=>u.there b o e (by simp)) u.tups u.frzs u.tbls (fun m' hm=>by
  obtain ⟨o',es',ep',ho',r'⟩:=hm
  rw [ho] at ho';cases ho'
  exact ⟨_,es',ep',hL,r'⟩) hok I.bare
theorem Inv.call {g':Array GenState} {t':Nat} {d':Drawn} {ch:List Addr} (I:Inv X pins σ H s) (u:Un (frs X.stack) ch H H' s.heap h') (hok:HOk X.prog X.w H' h') (hg:AllBare g')
 (hch:∀b∈ch,(b∈X.ex∨X.s₀.heap.objs.size≤b)∧b≠X.env.locals∧(∀x c,X.env.cells.lookup x=some c→c≠b)∧∀p∈X.pn++pins,p.1≠b):
 Inv X pins σ H' {s with heap:=h',gens:=g',drawn:=d',toks:=t'}:=by
 obtain ⟨m,⟨o,es,ep,ho,r⟩,_⟩:=id I.loc
 obtain ⟨sl,hL⟩:=u.any ho I.free fun z=>(hch _ z).2.1 rfl
 exact I.step (ch:=ch) hch (fun b o hL hb hc e n=>u.keep b o e n (fun z=>(vd.mp (I.stkSub b z)).elim hL hb) hc) (fun b o _ _ hc e n=>u.any e n hc) (fun b o hc e n=>u.free b o e n hc) (fun b o hc e=>u.there b o e hc) u.tups u.frzs u.tbls (fun m' hm=>by
  obtain ⟨o',es',ep',ho',r'⟩:=hm
  rw [ho] at ho';cases ho'
  exact ⟨_,es',ep',hL,r'⟩) hok hg
theorem Inv.turned {t':Nat} {it:Addr} (I:Inv X pins σ H s) (k:∀b o,b≠it→s.heap.get? b=some o→h'.get? b=some o) (hn:H it=none) (hL:it≠X.env.locals)
 (h1:it∈X.ex∨X.s₀.heap.objs.size≤it) (h2:∀x c,X.env.cells.lookup x=some c→c≠it) (h3:∀p∈X.pn++pins,p.1≠it):Inv X pins σ H {s with heap:=h',toks:=t'}:=by
 have nit:∀b u,H b=some u→b≠it:=fun b u e z=>by rw [z,hn] at e;cases e
 refine I.step (g':=s.gens) (d':=s.drawn) (ch:= [it]) (fun b hb=> ?_) (fun b o _ _ hc e _=>k b o (fun z=>hc (by simp [z])) e) (fun b o _ _ hc e _=>⟨o.slots,k b o (fun z=>hc (by simp [z])) e⟩) (fun _ _ _ _ n=>n)
  (fun b o hc e=>⟨o,k b o (fun z=>hc (by simp [z])) e⟩) (fun _ _ e=>e) (fun _ _ _ e=>e) (fun b ps e=>⟨#[],by rw [e];simp⟩) (fun m hm=> ?_) (fun b u e=> ?_) I.bare
 · have e:b=it:=by simpa using hb
   subst e
   exact ⟨h1,hL,h2,h3⟩
 · obtain ⟨o,es,ep,ho,r⟩:=hm
   exact ⟨o,es,ep,k _ o (Ne.symm hL) ho,r⟩
 · refine (I.hok b u e).stay (fun c v hc q=>k c v ?_ q) (fun _ q=>q) fun _ _ q=>q
   rcases hc with z|z
   · rw [z];exact nit b u e
   · exact nit c _ z
theorem Inv.tok (I:Inv X pins σ H s) (t:Nat):Inv X pins σ H {s with toks:=t}:=I.un (h':=s.heap) (t':=t) Un.refl I.hok
theorem Inv.kept {t':Nat} (I:Inv X pins σ H s) (k:∀b u,s.heap.get? b=some u→h'.get? b=some u):Inv X pins σ H {s with heap:=h',toks:=t'}:=I.un (Un.kept k) (I.hok.kept k)
theorem Inv.laid {a:Addr} {o:HO} {t':Nat} (I:Inv X pins σ H s) (k:∀b u,s.heap.get? b=some u→h'.get? b=some u) (hp:s.heap.objs.size≤a) (new:ObjOk X.prog X.w (upd H a o) h' a o):
 Inv X pins σ (upd H a o) {s with heap:=h',toks:=t'}:=I.un (Un.laid k hp (I.hok.fresh hp)) (I.hok.laid k hp new)
theorem Inv.write {x e:Addr} {o:HO} {t':Nat} (I:Inv X pins σ H s) (mu:Mut (H x)) (he:e=x∨H e=some (.own x)) (k:∀b u,b≠e→s.heap.get? b=some u→h'.get? b=some u) (heo:∃u,h'.get? e=some u)
 (new:ObjOk X.prog X.w (upd H x o) h' x o):Inv X pins σ (upd H x o) {s with heap:=h',toks:=t'}:=I.un (Un.write mu he k heo) (I.hok.write mu he k heo new)
theorem Inv.weak {σ':List (Option V)} (I:Inv X pins σ H s) (hl:σ'.length=σ.length) (w:∀(i:Nat) v,σ'[i]?=some (some v)→σ[i]?=some (some v)):Inv X pins σ' H s:=
 ⟨I.ok,I.os,I.bare,I.base,let ⟨m,hn,hl'⟩:=I.loc;⟨m,hn,fun i x v e1 e2 e3=>hl' i x v e1 (w i v e2) e3⟩,I.cell,I.free,I.freeC,I.pin,I.hok,hl.trans I.len⟩
theorem Inv.pins_of {pins':List (Addr×Obj)} (I:Inv X pins σ H s) (h:∀p∈pins',s.heap.get? p.1=some p.2∧H p.1=none∧p.1≠X.env.locals∧p.1∉X.fs∧∀v,p.2.data≠ .cell v):Inv X pins' σ H s:=
 ⟨I.ok,I.os,I.bare,I.base,I.loc,I.cell,I.free,I.freeC,fun p hp=>(vH.mp hp).elim (fun z=>I.pin p (List.mem_append_left _ z)) (h p),I.hok,I.len⟩
theorem ff {N:List Str} (hN:N.Nodup) {i j:Nat} {x:Str} (a:N[i]?=some x) (b:N[j]?=some x):i=j:=by
 obtain ⟨h1,e1⟩:=vg.mp a
 obtain ⟨h2,e2⟩:=vg.mp b
 exact (List.getElem_inj hN).mp (e1.trans e2.symm)
theorem g9 {M:Model} {A:Around} {E:Value→Shared→Prop} {i:Nat} {x:Str} {v:V} {u:Value} {Q:Unit→Shared→Prop} (I:Inv X pins σ H s) (hN:X.N.Nodup) (hi:X.N[i]?=some x) (hx:Loc X.env.scope x) (r:RelV v u)
 (h:∀s',Inv X pins (σ.set i (some v)) H s'→(∃a,Heap.SameBut a s.heap s'.heap∧(a=X.env.locals∨X.env.cells.lookup x=some a))→Q () s') (hf:X.fn x=true∨X.env.scope.names.lookup x=some .local:=by first|exact .inl rfl|exact .inr rfl|assumption):wpAny M A (storeName X.env x u) Q E s:=by
 obtain ⟨m,hn,hl⟩:=id I.loc
 have hcls:(X.env.scope.kind== .class ||(X.env.scope.kind== .module&&X.env.locals !=X.env.globals))=false:=by rw [I.ok.kind];rfl
 have hiσ:i < σ.length:=by rw [I.len];exact (vg.mp hi).1
 have cne:=I.cne
 have tracked:∀ {a:Addr} {h':Heap},(∃o,s.heap.get? a=some o∧H a=none)→Heap.SameBut a s.heap h'→HOk X.prog X.w H h':=fun {a h'} ha hs b ob e=>by
  obtain ⟨_,_,hfree⟩:=ha
  refine (I.hok b ob e).stay (fun c w' hc q=>(hs.2 c ?_).trans q) (fun _ q=>q) fun _ _ q=>q
  rintro rfl
  rcases hc with rfl|hc
  · rw [hfree] at e;cases e
  · rw [hfree] at hc;cases hc
 rcases hx with hk|hk
 · refine wpAny_storeName_local hk hn (fun h' hn' hs=> ?_) hcls
   obtain ⟨oL,_,_,hoL,_⟩:=id hn
   refine h _ ⟨I.ok,I.os,I.bare,⟨fun b o e n hb hx=> ?_,fun b o e n hb hx=> ?_,I.base.free,fun b o e hx=> ?_,I.base.tups,I.base.frzs,I.base.tbls⟩,⟨_,hn',fun j y v' e1 e2 e3=> ?_⟩,fun y c e=> ?_,I.free,I.freeC,fun p hp=> ?_,tracked ⟨oL,hoL,I.free⟩ hs,by simpa using I.len⟩ ⟨_,hs, .inl rfl⟩
   · exact (hs.2 b (vf (v8 (Heap.lt_size e) I.ok.above))).trans (I.base.keep b o e n hb hx)
   · obtain ⟨sl,e1⟩:=I.base.slot b o e n hb hx
     exact ⟨sl,(hs.2 b (vf (v8 (Heap.lt_size e) I.ok.above))).trans e1⟩
   · obtain ⟨o',e1⟩:=I.base.there b o e hx
     exact ⟨o',(hs.2 b (vf (v8 (Heap.lt_size e) I.ok.above))).trans e1⟩
   · by_cases hj:j=i
     · subst hj
       rw [hi] at e1;cases e1
       rw [List.getElem?_set_self hiσ] at e2
       cases e2
       exact ⟨u,r, .inl ⟨hk,by simp⟩⟩
     · rw [List.getElem?_set_ne (Ne.symm hj)] at e2
       obtain ⟨u',r',q⟩:=hl j y v' e1 e2 e3
       refine ⟨u',r',?_⟩
       rcases q with ⟨k,e⟩|⟨k,c,e,z⟩
       · refine .inl ⟨k,?_⟩
         have:y≠x:=fun e=>hj (ff hN e1 (e▸hi))
         simp [this,e]
       · exact .inr ⟨k,c,e,z.sameBut hs (cne y c e)⟩
   · obtain ⟨w',z⟩:=I.cell y c e
     exact ⟨w',z.sameBut hs (cne y c e)⟩
   · obtain ⟨e,n,ne,nf,d⟩:=I.pin p hp
     exact ⟨(hs.2 p.1 ne).trans e,n,ne,nf,d⟩
 · have hfn:X.fn x=true:=by
    rcases hf with z|z
    · exact z
    · rw [z] at hk;cases hk
   obtain ⟨c,hc⟩:=I.ok.has x (.inl hk)
   obtain ⟨w',z⟩:=I.cell x c hc
   refine wpAny_storeName_cell I.ok.kind hk hc z (fun h' hc' hs=> ?_)
   obtain ⟨oc,hoc,hocd⟩:=id z
   refine h {s with heap:=h'} ⟨I.ok,I.os,I.bare,⟨fun b o e n hb hx=> ?_,fun b o e n hb hx=> ?_,I.base.free,fun b o e hx=> ?_,I.base.tups,I.base.frzs,I.base.tbls⟩,⟨m,hn.sameBut hs (Ne.symm (cne x c hc)),fun j y v' e1 e2 e3=> ?_⟩,fun y c' e=> ?_,I.free,I.freeC,fun p hp=> ?_,tracked ⟨oc,hoc,I.freeC x c hc⟩ hs,by simpa using I.len⟩ ⟨c,hs, .inr hc⟩
   · exact (hs.2 b (vf (v8 (Heap.lt_size e) (I.ok.cab x c hfn hc)))).trans (I.base.keep b o e n hb hx)
   · obtain ⟨sl,e1⟩:=I.base.slot b o e n hb hx
     exact ⟨sl,(hs.2 b (vf (v8 (Heap.lt_size e) (I.ok.cab x c hfn hc)))).trans e1⟩
   · obtain ⟨o',e1⟩:=I.base.there b o e hx
     exact ⟨o',(hs.2 b (vf (v8 (Heap.lt_size e) (I.ok.cab x c hfn hc)))).trans e1⟩
   · by_cases hj:j=i
     · subst hj
       rw [hi] at e1;cases e1
       rw [List.getElem?_set_self hiσ] at e2
       cases e2
       exact ⟨u,r, .inr ⟨.inl hk,c,hc,hc'⟩⟩
     · rw [List.getElem?_set_ne (Ne.symm hj)] at e2
       obtain ⟨u',r',q⟩:=hl j y v' e1 e2 e3
       refine ⟨u',r',?_⟩
       rcases q with q|⟨k,c',e,z'⟩
       · exact .inl q
       · refine .inr ⟨k,c',e,z'.sameBut hs ?_⟩
         rintro rfl
         exact hj (ff hN e1 (I.ok.inj _ _ _ e hc▸hi))
   · by_cases hcc:c'=c
     · subst hcc;exact ⟨_,hc'⟩
     · obtain ⟨w2,z2⟩:=I.cell y c' e
       exact ⟨w2,z2.sameBut hs hcc⟩
   · obtain ⟨e,n,ne,nf,d⟩:=I.pin p hp
     refine ⟨(hs.2 p.1 ?_).trans e,n,ne,nf,d⟩
     intro q
     rw [q,hoc] at e
     have q':oc=p.2:=vk e
     exact d w' (by rw [←q'];exact hocd)
theorem cp {M:Model} {A:Around} {E:Value→Shared→Prop} {i:Nat} {x:Str} {v:V} {u:Value} {Q:Unit→Shared→Prop} (I:Inv X pins σ H s) (hN:X.N.Nodup) (hi:X.N[i]?=some x) (hx:Loc X.env.scope x) (r:RelV v u)
 (h:∀s',Inv X pins (σ.set i (some v)) H s'→Q () s') (hf:X.fn x=true∨X.env.scope.names.lookup x=some .local:=by first|exact .inl rfl|exact .inr rfl|assumption):wpAny M A (storeName X.env x u) Q E s:=
 g9 I hN hi hx r (fun s' I' _=>h s' I') hf
theorem Inv.call' {s':Shared} {ch:List Addr} (I:Inv X pins σ H s) (ho:s'.os=s.os) (u:Un (frs X.stack) ch H H' s.heap s'.heap) (hok:HOk X.prog X.w H' s'.heap) (hg:AllBare s'.gens)
 (hch:∀b∈ch,(b∈X.ex∨X.s₀.heap.objs.size≤b)∧b≠X.env.locals∧(∀x c,X.env.cells.lookup x=some c→c≠b)∧∀p∈X.pn++pins,p.1≠b):Inv X pins σ H' s':=by
 obtain ⟨h',g',d',t',o'⟩:=s'
 have e:o'=s.os:=ho
 subst e
 exact I.call (g':=g') (t':=t') (d':=d') u hok hg hch
end
abbrev XK:=Value→Option Addr→Hp→Prop
abbrev St:=List (Option V)
abbrev VK:=V→Hp→Prop
abbrev TE:=St→Hp→VK→Prop
abbrev TT:=St→Hp→(Bool→Hp→Prop)→Prop
abbrev TA:=St→Hp→(List V→Hp→Prop)→Prop
structure Ends where
 nx:St→Hp→Prop
 rt:VK
 bk:St→Hp→Prop:=fun _ _=>False
 ct:St→Hp→Prop:=fun _ _=>False
abbrev TS:=Ends→St→Hp→Prop
def EP (X:Cx) (pins:List (Addr×Obj)) (σ:St) (Q:VK) (u:Value) (s':Shared):Prop:=∃v H',Inv X pins σ H' s'∧RelV v u∧Q v H'
def TP (X:Cx) (pins:List (Addr×Obj)) (σ:St) (Q:Bool→Hp→Prop) (b:Bool) (s':Shared):Prop:=∃H',Inv X pins σ H' s'∧Q b H'
def AP (X:Cx) (pins:List (Addr×Obj)) (σ:St) (Q:List V→Hp→Prop) (us:List Value) (s':Shared):Prop:=∃vs H',Inv X pins σ H' s'∧Vals vs us∧Q vs H'
def SP (X:Cx) (pins:List (Addr×Obj)) (D:Ends) (f:Flow) (s':Shared):Prop:=
 match f with
 | .next=>∃σ' H',Inv X pins σ' H' s'∧D.nx σ' H'
 | .brk=>∃σ' H',Inv X pins σ' H' s'∧D.bk σ' H'
 | .cont=>∃σ' H',Inv X pins σ' H' s'∧D.ct σ' H'
 | .ret u=>∃v σ' H',Inv X pins σ' H' s'∧RelV v u∧D.rt v H'
def PE (X:Cx) (e:Expr) (t:TE):Prop:=
 ∀(pins:List (Addr×Obj)) (s:Shared) (σ:St) (H:Hp) (Q:VK),Inv X pins σ H s→t σ H Q→wpAny (model X.prog X.w) X.A (eval e X.env) (EP X pins σ Q) X.xe s
def PT (X:Cx) (e:Expr) (t:TT):Prop:=
 ∀(pins:List (Addr×Obj)) (s:Shared) (σ:St) (H:Hp) (Q:Bool→Hp→Prop),Inv X pins σ H s→t σ H Q→wpAny (model X.prog X.w) X.A (isTrue e X.env (eval e X.env)) (TP X pins σ Q) X.xe s
def PW (X:Cx) (e:Expr) (t:TT):Prop:=
 ∀(whole:Sem Value) (pins:List (Addr×Obj)) (s:Shared) (σ:St) (H:Hp) (Q:Bool→Hp→Prop),Inv X pins σ H s→t σ H Q→wpAny (model X.prog X.w) X.A (isTrue e X.env whole) (TP X pins σ Q) X.xe s
theorem PW.pt {X:Cx} {e:Expr} {t:TT} (h:PW X e t):PT X e t:=h _
def PA (X:Cx) (es:List Expr) (t:TA):Prop:=
 ∀(pos:Pos) (pins:List (Addr×Obj)) (s:Shared) (σ:St) (H:Hp) (Q:List V→Hp→Prop),Inv X pins σ H s→t σ H Q→wpAny (model X.prog X.w) X.A (spliced (backTo pos (starEach es X.env))) (AP X pins σ Q) X.xe s
def PS (X:Cx) (st:Stmt) (t:TS):Prop:=
 ∀(pins:List (Addr×Obj)) (s:Shared) (σ:St) (H:Hp) (D:Ends),Inv X pins σ H s→t D σ H→wpAny (model X.prog X.w) X.A (exec st X.env) (SP X pins D) X.xe s
def PSs (X:Cx) (st:List Stmt) (t:TS):Prop:=
 ∀(pins:List (Addr×Obj)) (s:Shared) (σ:St) (H:Hp) (D:Ends),Inv X pins σ H s→t D σ H→wpAny (model X.prog X.w) X.A (execs st X.env) (SP X pins D) X.xe s
theorem thn {α:Type} {t:Sem α} {Q Q':α→Shared→Prop} {M:Model} {A:Around} {E:Value→Shared→Prop} {s:Shared} (h:wpAny M A t Q E s) (hQ:∀a s,Q a s→Q' a s):wpAny M A t Q' E s:=wpAny_mono h hQ fun _ _ x=>x
open PySem PySem.Spec PyProof.Rows
section
variable {X:Cx}
def tVar (i:Nat):TE:=fun σ H Q=>∃v,σ[i]?=some (some v)∧Q v H
def tC (v:V):TE:=fun _ H Q=>Q v H
theorem sO {i:Nat} {x:Str} {pos:Pos} (hN:X.N[i]?=some x) (hv:Vis X.env.scope x) (hd:(x==("__debug__":Str))=false:=by decide) (hcd:(x==("__classdict__":Str))=false:=by decide):PE X (.Name x pos) (tVar i):=by
 intro pins s σ H Q I h
 obtain ⟨v,e,h⟩:=h
 obtain ⟨m,hn,hl⟩:=I.loc
 obtain ⟨u,r,l⟩:=hl i x v hN e hv
 have fin:EP X pins σ Q u s:=⟨v,H,I,r,h⟩
 rcases l with ⟨hk,hm⟩|⟨hk,c,hc,hcell⟩
 · exact wpAny_Name (wpAny_loadName_local I.ok.kind hk hn hm fin) hd
 · rcases hk with hk|hk
   · exact wpAny_Name (wpAny_loadName_cell I.ok.kind hk hc hcell fin) hd
   · exact wpAny_Name (wpAny_loadName_free I.ok.kind hk hc hcell fin hcd) hd
theorem ac {i j pos}:PE X (.Constant (.int i) j pos) (tC (.int i)):=fun _ _ _ H _ I h=>wpAny_Constant_int ⟨.int i,H,I.tok _,⟨_,rfl⟩,h⟩
theorem eA {b j pos}:PE X (.Constant (.bool b) j pos) (tC (.bl b)):=fun _ _ _ H _ I h=>Constant_bool ⟨.bl b,H,I,rfl,h⟩
theorem bb {j pos}:PE X (.Constant .none j pos) (tC .non):=fun _ _ _ H _ I h=>Constant_none ⟨.non,H,I,rfl,h⟩
theorem ad {x j pos}:PE X (.Constant (.str x) j pos) (tC (.str x)):=fun _ _ _ H _ I h=>Calls.Constant_str ⟨.str x,H,I.tok _,⟨_,rfl⟩,h⟩
def Gl (X:Cx) (x:Str):Prop:=X.env.kindOf x=some .globalImplicit
theorem cX {E:Value→Shared→Prop} {pins:List (Addr×Obj)} {s:Shared} {σ:St} {H:Hp} {x:Str} {u:Value} {pos:Pos} {Q:Value→Shared→Prop} (I:Inv X pins σ H s) (hg:Gl X x) (hm:X.mg x=some u) (h:Q u s)
 (hd:(x==("__debug__":Str))=false:=by decide):wpAny (model X.prog X.w) X.A (eval (.Name x pos) X.env) Q E s:=
 Calls.Name_function_global I.ok.kind hg (Calls.loadGlobal_global (by rw [I.ok.glob];exact I.mod.glob.keeps I.bk) hm h) hd
theorem cT {E:Value→Shared→Prop} {pins:List (Addr×Obj)} {s:Shared} {σ:St} {H:Hp} {x:Str} {u:Value} {pos:Pos} {Q:Value→Shared→Prop} (I:Inv X pins σ H s) (hg:Gl X x) (hm:X.mg x=none) (hv:bootBuiltins x=some u) (h:Q u s)
 (hn:x≠"__name__":=by decide) (hd:(x==("__debug__":Str))=false:=by decide):wpAny (model X.prog X.w) X.A (eval (.Name x pos) X.env) Q E s:=by
 obtain ⟨mb,h1,h2⟩:=I.mod.blt
 exact Calls.Name_function_global I.ok.kind hg (Calls.loadGlobal_builtin (by rw [I.ok.glob];exact I.mod.glob.keeps I.bk) hm (by rw [I.ok.blt];exact h1.keeps I.bk) ((h2 x hn).trans hv) h) hd
theorem aZ {x:Str} {v:V} {u:Value} {pos:Pos} (hg:Gl X x) (hm:X.mg x=some u) (r:RelV v u) (hd:(x==("__debug__":Str))=false:=by decide):PE X (.Name x pos) (tC v):=
 fun _ _ _ H _ I h=>cX I hg hm ⟨v,H,I,r,h⟩ hd
theorem i8 {x:Str} {v:V} {u:Value} {pos:Pos} (hg:Gl X x) (hm:X.mg x=none) (hv:bootBuiltins x=some u) (r:RelV v u) (hn:x≠"__name__":=by decide) (hd:(x==("__debug__":Str))=false:=by decide):PE X (.Name x pos) (tC v):=
 fun _ _ _ H _ I h=>cT I hg hm hv ⟨v,H,I,r,h⟩ hn hd
variable {a b:Expr} {ta tb:TE} {pos:Pos}
def tB (t:TE):TT:=fun σ H Q=>t σ H fun x H1=>∃c,x= .bl c∧Q c H1
theorem bq {e:Expr} {t:TE} (h:PE X e t) (he:∀whole,isTrue e X.env whole=(do let v←whole;standAt e.pos;holding [v] (truthy v)):=by intro _;rfl):PT X e (tB t):=by
 intro pins s σ H Q I hw
 refine isTrue_plain (thn (h pins s σ H _ I hw) fun v s1 ⟨x,H1,I1,r1,q1⟩=> ?_) (he _)
 obtain ⟨d,rfl,q⟩:=q1
 cases r1
 exact wpAny_truthy_bool ⟨H1,I1,q⟩
variable {tA tB':TT} {rest:List Expr}
def tAnd (t u:TT):TT:=fun σ H Q=>t σ H fun c H1=>if c=true then u σ H1 Q else Q false H1
def tOr (t u:TT):TT:=fun σ H Q=>t σ H fun c H1=>if c=true then Q true H1 else u σ H1 Q
def tNot (t:TT):TT:=fun σ H Q=>t σ H fun c H1=>Q (!c) H1
theorem eK (ha:PT X a tA):PW X (.BoolOp .And [a] pos) tA:=by
 intro wh pins s σ H Q I h
 refine isTrue_and (thn (ha pins s σ H Q I h) fun c s1 e=> ?_)
 cases c with
 |true=>exact isTrue_and_nil e
 |false=>exact e
theorem bi (ha:PT X a tA):PW X (.BoolOp .Or [a] pos) tA:=by
 intro wh pins s σ H Q I h
 refine isTrue_or (thn (ha pins s σ H Q I h) fun c s1 e=> ?_)
 cases c with
 |false=>exact isTrue_or_nil e
 |true=>exact e
theorem eZ (ha:PT X a tA) (hb:PW X (.BoolOp .And (b::rest) pos) tB'):PW X (.BoolOp .And (a::b::rest) pos) (tAnd tA tB'):=by
 intro wh pins s σ H Q I h
 refine isTrue_and (thn (ha pins s σ H _ I h) fun c s1 ⟨H1,I1,q1⟩=> ?_)
 cases c with
 |true=>exact hb wh pins s1 σ H1 Q I1 q1
 |false=>exact ⟨H1,I1,q1⟩
theorem bf (ha:PT X a tA) (hb:PW X (.BoolOp .Or (b::rest) pos) tB'):PW X (.BoolOp .Or (a::b::rest) pos) (tOr tA tB'):=by
 intro wh pins s σ H Q I h
 refine isTrue_or (thn (ha pins s σ H _ I h) fun c s1 ⟨H1,I1,q1⟩=> ?_)
 cases c with
 |true=>exact ⟨H1,I1,q1⟩
 |false=>exact hb wh pins s1 σ H1 Q I1 q1
theorem cw (ha:PT X a tA):PT X (.UnaryOp .Not a pos) (tNot tA):=by
 intro pins s σ H Q I h
 exact isTrue_not (ha pins s σ H (fun c H1=>Q (!c) H1) I h)
def uf (ta tb:TE):TE:=fun σ H Q=>ta σ H fun x H1=>∃c,x= .bl c∧if c=true then tb σ H1 Q else Q (.bl false) H1
def tOrV (ta tb:TE):TE:=fun σ H Q=>ta σ H fun x H1=>∃c,x= .bl c∧if c=true then Q (.bl true) H1 else tb σ H1 Q
theorem i7 {op} {t:TE} (h:PE X a t):PE X (.BoolOp op [a] pos) t:=fun pins s σ H Q I hw=>BoolOp_one (h pins s σ H Q I hw)
theorem i9 (ha:PE X a ta) (hb:PE X (.BoolOp .And (b::rest) pos) tb):PE X (.BoolOp .And (a::b::rest) pos) (uf ta tb):=by
 intro pins s σ H Q I h
 refine BoolOp_and (thn (ha pins s σ H _ I h) fun v s1 ⟨x,H1,I1,r1,q1⟩=> ?_)
 obtain ⟨c,rfl,q1⟩:=q1
 cases r1
 refine wpAny_truthy_bool ?_
 cases c with
 |true=>exact hb pins s1 σ H1 Q I1 q1
 |false=>exact ⟨.bl false,H1,I1,rfl,q1⟩
theorem ut (ha:PE X a ta) (hb:PE X (.BoolOp .Or (b::rest) pos) tb):PE X (.BoolOp .Or (a::b::rest) pos) (tOrV ta tb):=by
 intro pins s σ H Q I h
 refine BoolOp_or (thn (ha pins s σ H _ I h) fun v s1 ⟨x,H1,I1,r1,q1⟩=> ?_)
 obtain ⟨c,rfl,q1⟩:=q1
 cases r1
 refine wpAny_truthy_bool ?_
 cases c with
 |false=>exact hb pins s1 σ H1 Q I1 q1
 |true=>exact ⟨.bl true,H1,I1,rfl,q1⟩
def tIf (t:TT) (ta tb:TE):TE:=fun σ H Q=>t σ H fun c H1=>if c=true then ta σ H1 Q else tb σ H1 Q
theorem bn {c:Expr} (hc:PT X c tA) (ha:PE X a ta) (hb:PE X b tb):PE X (.IfExp c a b pos) (tIf tA ta tb):=by
 intro pins s σ H Q I h
 refine wpAny_IfExp (thn (hc pins s σ H _ I h) fun d s1 ⟨H1,I1,q1⟩=> ?_)
 cases d with
 |true=>exact ha pins s1 σ H1 Q I1 q1
 |false=>exact hb pins s1 σ H1 Q I1 q1
end
open PySem PySem.Spec PyProof.Rows
def SqL (K:PySem.W.Frag) (H:Hp) (a:Addr) (xs:List V):Prop:=
 Rd H a (.lst xs)∨
  ∃(o:Obj) (its:Array Value) (n:Nat),K.lookup a=some o∧o.cls= .type "list"∧o.dict=none∧o.data= .seq its n∧its.size≤sizeLine∧Vals xs its.toList
def SqT (K:PySem.W.Frag) (H:Hp) (a:Addr) (xs:List V):Prop:=
 Rd H a (.tup xs)∨
  ∃(o:Obj) (its:Array Value) (n:Nat),K.lookup a=some o∧o.cls= .type "tuple"∧o.data= .seq its n∧its.size≤sizeLine∧Vals xs its.toList
noncomputable def absV:Value→Option V
 | .none=>some .non
 | .bool b=>some (.bl b)
 | .int i _=>some (.int i)
 | .str x _=>some (.str x)
 | .bytes b _=>some (.byt b)
 | .float b _=>some (.flt b)
 | .ref a=>some (.ref a)
 | .type n=>some (.ty n)
 |_=>none
theorem RelV.abs {x:V} {u:Value} (r:RelV x u):absV u=some x:=by
 cases x with
 |non=>cases r;rfl
 |bl _=>cases r;rfl
 |int _=>obtain ⟨t,rfl⟩:=r;rfl
 |str _=>obtain ⟨t,rfl⟩:=r;rfl
 |byt _=>obtain ⟨t,rfl⟩:=r;rfl
 |flt _=>obtain ⟨t,rfl⟩:=r;rfl
 |ref _=>cases r;rfl
 |ty _=>cases r;rfl
theorem RelV.inj {x y:V} {u:Value} (r:RelV x u) (q:RelV y u):x=y:=vk (r.abs.symm.trans q.abs)
theorem Vals.inj:∀ {xs ys:List V} {us:List Value},Vals xs us→Vals ys us→xs=ys
 |_,_,_, .nil, .nil=>rfl
 |_,_,_, .cons r t, .cons r' t'=>by rw [r.inj r',Vals.inj t t']
section
variable {X:Cx} {pins:List (Addr×Obj)} {σ:St} {H:Hp} {s:Shared} {a:Addr} {xs ys:List V}
theorem SqL.of {K:PySem.W.Frag} (h:H a=some (.lst xs)):SqL K H a xs:= .inl (.inl h)
theorem SqT.of {K:PySem.W.Frag} (h:H a=some (.tup xs)):SqT K H a xs:= .inl (.inl h)
theorem Inv.list (I:Inv X pins σ H s) (h:SqL X.K H a xs):∃its:List Value,Vals xs its∧PlainL s.heap a its.toArray∧xs.length≤sizeLine:=by
 rcases h with h|⟨o,its,n,hk,hc,hd,hs,hz,r⟩
 · obtain ⟨z,its,n,r,e⟩:=h.ok I.hok
   exact ⟨its,r,⟨_,n,e,rfl,rfl,rfl⟩,z⟩
 · refine ⟨its.toList,r,⟨o,n,I.kIn a o hk,hc,hd,by simpa using hs⟩,?_⟩
   have e:=r.length
   simp only [vy] at e
   omega
theorem Inv.tuple (I:Inv X pins σ H s) (h:SqT X.K H a xs):∃its:List Value,Vals xs its∧IsTup s.heap a its.toArray∧xs.length≤sizeLine:=by
 rcases h with h|⟨o,its,n,hk,hc,hs,hz,r⟩
 · obtain ⟨z,its,r,p⟩:=h.ok I.hok
   exact ⟨its,r,p,z⟩
 · refine ⟨its.toList,r,⟨o,I.kIn a o hk,hc,n,by simpa using hs⟩,?_⟩
   have e:=r.length
   simp only [vy] at e
   omega
theorem Inv.list_inj (I:Inv X pins σ H s) (h:SqL X.K H a xs) (h':SqL X.K H a ys):xs=ys:=by
 obtain ⟨its,r,⟨o,n,e,_,_,d⟩,_⟩:=I.list h
 obtain ⟨its',r',⟨o',n',e',_,_,d'⟩,_⟩:=I.list h'
 rw [e] at e';cases e'
 rw [d] at d'
 injection d' with d1 _
 have:its=its':=by simpa using congrArg Array.toList d1
 subst this
 exact r.inj r'
end
abbrev Cx.wish (X:Cx) (E:Value→Shared→Prop):Cx:= {X with xe:=E}
abbrev Cx.nox (X:Cx):Cx:=X.wish fun _ _=>False
theorem Cx.Ok.wish {X:Cx} (ok:X.Ok) (E:Value→Shared→Prop):(X.wish E).Ok:=
 ⟨ok.mod,ok.kind,ok.glob,ok.blt,ok.above,ok.inj,ok.has,ok.cab,ok.hd,ok.frames,ok.stk,ok.exf,ok.bs,ok.bsz,ok.noex,ok.exfs,ok.funs,ok.frf⟩
theorem Cx.Ok.unwish {X:Cx} {E:Value→Shared→Prop} (ok:(X.wish E).Ok):X.Ok:=
 ⟨ok.mod,ok.kind,ok.glob,ok.blt,ok.above,ok.inj,ok.has,ok.cab,ok.hd,ok.frames,ok.stk,ok.exf,ok.bs,ok.bsz,ok.noex,ok.exfs,ok.funs,ok.frf⟩
section
variable {X:Cx} {pins:List (Addr×Obj)} {σ:St} {H:Hp} {s:Shared} {E:Value→Shared→Prop}
theorem Inv.wish (I:Inv X pins σ H s) (E:Value→Shared→Prop):Inv (X.wish E) pins σ H s:=⟨I.ok.wish E,I.os,I.bare,I.base,I.loc,I.cell,I.free,I.freeC,I.pin,I.hok,I.len⟩
theorem Inv.unwish (I:Inv (X.wish E) pins σ H s):Inv X pins σ H s:=⟨I.ok.unwish,I.os,I.bare,I.base,I.loc,I.cell,I.free,I.freeC,I.pin,I.hok,I.len⟩
theorem SP.unwish {D:Ends} {f:Flow} {s':Shared} (h:SP (X.wish E) pins D f s'):SP X pins D f s':=by
 cases f with
 |next=>obtain ⟨σ',H',I,q⟩:=h;exact ⟨σ',H',I.unwish,q⟩
 |brk=>obtain ⟨σ',H',I,q⟩:=h;exact ⟨σ',H',I.unwish,q⟩
 |cont=>obtain ⟨σ',H',I,q⟩:=h;exact ⟨σ',H',I.unwish,q⟩
 |ret u=>obtain ⟨v,σ',H',I,r,q⟩:=h;exact ⟨v,σ',H',I.unwish,r,q⟩
theorem PSs.nox {st:List Stmt} {t:TS} (h:PSs X.nox st t):PSs X st t:=fun pins s σ H D I hw=>
 wpAny_mono (h pins s σ H D (I.wish _) hw) (fun _ _ q=>q.unwish) fun _ _ z=>False.elim z
end
section
variable {X:Cx} {st:Stmt} {rest:List Stmt} {t u:TS} {e:Expr} {te:TE} {pos:Pos}
def ng:TS:=fun D σ H=>D.nx σ H
def tSeq (t u:TS):TS:=fun D σ H=>t {D with nx:=u D} σ H
theorem aw:PSs X [] ng:=fun _ _ σ H _ I h=>wpAny_execs_nil ⟨σ,H,I,h⟩
theorem a9 (h1:PS X st t) (h2:PSs X rest u):PSs X (st::rest) (tSeq t u):=by
 intro pins s σ H D I h
 refine wpAny_execs_cons (thn (h1 pins s σ H {D with nx:=u D} I h) fun f s1 q=> ?_)
 cases f with
 |next=>
  obtain ⟨σ',H',I',q⟩:=q
  exact h2 pins s1 σ' H' D I' q
 |ret v=>exact q
 |brk=>exact q
 |cont=>exact q
theorem ag (h1:PS X st t):PSs X [st] t:=by
 intro pins s σ H D I h
 refine wpAny_execs_cons (thn (h1 pins s σ H D I h) fun f s1 q=> ?_)
 cases f with
 |next=>exact wpAny_execs_nil q
 |ret v=>exact q
 |brk=>exact q
 |cont=>exact q
theorem Inv.quiet {pins:List (Addr×Obj)} {σ:St} {H:Hp} {s:Shared} (I:Inv X pins σ H s):interactive X.env=false:=by simp [interactive,I.ok.kind]
def ue (te:TE):TS:=fun D σ H=>te σ H fun _ H1=>D.nx σ H1
theorem c9 (he:PE X e te) (hs:swapsWith e none pos.line X.env=pure false:=by rfl):PS X (.Expr e pos) (ue te):=by
 intro pins s σ H D I h
 exact wpAny_Expr_any (thn (he pins s σ H _ I h) fun v s1 ⟨x,H1,I1,r1,q1⟩=>⟨σ,H1,I1,q1⟩) I.quiet hs
def tRet (te:TE):TS:=fun D σ H=>te σ H D.rt
theorem aA (he:PE X e te):PS X (.Return (some e) pos) (tRet te):=by
 intro pins s σ H D I h
 exact wpAny_Return_some (thn (he pins s σ H _ I h) fun v s1 ⟨x,H1,I1,r1,q1⟩=>⟨x,σ,H1,I1,r1,q1⟩)
def tIfS (c:TT) (t u:TS):TS:=fun D σ H=>c σ H fun b H1=>if b=true then t D σ H1 else u D σ H1
theorem aS {c:Expr} {a b:List Stmt} {tc:TT} (hc:PT X c tc) (ha:PSs X a t) (hb:PSs X b u):PS X (.If c a b pos) (tIfS tc t u):=by
 intro pins s σ H D I h
 refine wpAny_If (thn (hc pins s σ H _ I h) fun d s1 ⟨H1,I1,q1⟩=> ?_)
 cases d with
 |true=>exact ha pins s1 σ H1 D I1 q1
 |false=>exact hb pins s1 σ H1 D I1 q1
end
abbrev TG:=V→St→Hp→(St→Hp→Prop)→Prop
abbrev TGs:=List V→St→Hp→(St→Hp→Prop)→Prop
def PG (X:Cx) (target:Expr) (t:TG):Prop:=
 ∀(pins:List (Addr×Obj)) (s:Shared) (σ:St) (H:Hp) (v:V) (u:Value) (Q:St→Hp→Prop),Inv X pins σ H s→RelV v u→t v σ H Q→
  wpAny (model X.prog X.w) X.A (assign target X.env u) (fun _ s'=>∃σ' H',Inv X pins σ' H' s'∧Q σ' H') X.xe s
def PGs (X:Cx) (ts:List Expr) (t:TGs):Prop:=
 ∀(pins:List (Addr×Obj)) (s:Shared) (σ:St) (H:Hp) (vs:List V) (us:List Value) (Q:St→Hp→Prop),Inv X pins σ H s→Vals vs us→t vs σ H Q→
  wpAny (model X.prog X.w) X.A (assignInOrder ((assignEach ts X.env).map (·.2)) us) (fun _ s'=>∃σ' H',Inv X pins σ' H' s'∧Q σ' H') X.xe s
abbrev TSet:=V→V→V→Hp→(Hp→Prop)→Prop
def PSet (X:Cx) (t:TSet):Prop:=
 ∀(pins:List (Addr×Obj)) (s:Shared) (σ:St) (H:Hp) (o i v:V) (ov iv u:Value) (Q:Hp→Prop),Inv X pins σ H s→RelV o ov→RelV i iv→RelV v u→t o i v H Q→
  wpAny (model X.prog X.w) X.A (setItem ov iv u) (fun _ s'=>∃H',Inv X pins σ H' s'∧Q H') X.xe s
section
variable {X:Cx} {pos:Pos}
def bB (i:Nat):TG:=fun v σ H Q=>Q (σ.set i (some v)) H
theorem aY {i:Nat} {x:Str} (hN:X.N.Nodup) (hi:X.N[i]?=some x) (hx:Loc X.env.scope x) (hf:X.fn x=true∨X.env.scope.names.lookup x=some .local:=by first|exact .inl rfl|exact .inr rfl|assumption):PG X (.Name x pos) (bB i):=by
 intro pins s σ H v u Q I r h
 exact wpAny_assign_Name (cp I hN hi hx r (fun s' I'=>⟨_,H,I',h⟩) hf)
def gNil:TGs:=fun vs σ H Q=>vs= []∧Q σ H
def uM (t:TG) (u:TGs):TGs:=fun vs σ H Q=>∃v r,vs=v::r∧t v σ H fun σ' H'=>u r σ' H' Q
theorem eL:PGs X [] gNil:=by
 intro pins s σ H vs us Q I r h
 obtain ⟨e,h⟩:=h
 subst e
 cases r
 exact assignInOrder_nil ⟨σ,H,I,h⟩
theorem br {e:Expr} {es:List Expr} {t:TG} {u:TGs} (h1:PG X e t) (h2:PGs X es u)
 (hs:(assignEach (e::es) X.env).map (·.2)=assign e X.env::(assignEach es X.env).map (·.2):=by rfl):PGs X (e::es) (uM t u):=by
 intro pins s σ H vs us Q I r h
 obtain ⟨v,vr,e1,h⟩:=h
 subst e1
 cases r with
 |cons r rr=>
  rw [hs]
  refine assignInOrder_cons (thn (h1 pins s σ H _ _ _ I r h) fun _ s1 ⟨σ1,H1,I1,q1⟩=> ?_)
  exact h2 pins s1 σ1 H1 _ _ Q I1 rr q1
def gTup (K:PySem.W.Frag) (n:Nat) (t:TGs):TG:=fun v σ H Q=>∃a xs,v= .ref a∧SqT K H a xs∧xs.length=n∧t xs σ H Q
theorem i5 {es:List Expr} {k:Nat} {t:TGs} {n:Nat} (hc:X.calm=true) (h:PGs X es t)
 (hn:(assignEach es X.env).length=n:=by rfl) (hst:(assignEach es X.env).findIdx? (·.1)=none:=by rfl):PG X (.Tuple es k pos) (gTup X.K n t):=by
 intro pins s σ H v u Q I r hw
 obtain ⟨a,xs,e1,hq,hl,hw⟩:=hw
 subst e1
 cases r
 obtain ⟨its,rv,ht,hz⟩:=I.tuple hq
 refine assign_Tuple_tuple (I.ok.hd hc) ht (by simp [hn,←hl,rv.length]) hst fun h' hx=> ?_
 have I1:Inv X pins σ H {s with heap:=h'}:=I.kept (t':=s.toks) fun b o e=>hx b o (vf (Heap.lt_size e)) e
 exact h pins _ σ H xs _ Q I1 (by simpa using rv) hw
def gSub (to ti:TE) (t:TSet):TG:=fun v σ H Q=>to σ H fun o H1=>ti σ H1 fun i H2=>t o i v H2 fun H3=>Q σ H3
theorem f9 {o i:Expr} {to ti:TE} {t:TSet} (ho:PE X o to) (hi:PE X i ti) (hs:PSet X t)
 (ha:∀v,assign (.Subscript o i pos) X.env v=(do
  let ov←holding [v] (eval o X.env)
  let iv←holding [v,ov] (eval i X.env)
  standAt pos
  holding [v,ov,iv] (setItem ov iv v)
  release [v,ov,iv] []):=by intro _;rfl):PG X (.Subscript o i pos) (gSub to ti t):=by
 intro pins s σ H v u Q I r h
 rw [ha]
 refine wpAny_bind (wpAny_holding (thn (ho pins s σ H _ I h) fun ov s1 ⟨x,H1,I1,r1,q1⟩=> ?_))
 refine wpAny_bind (wpAny_holding (thn (hi pins s1 σ H1 _ I1 q1) fun iv s2 ⟨y,H2,I2,r2,q2⟩=> ?_))
 refine wpAny_bind (wpAny_standAt (wpAny_bind (wpAny_holding (thn (hs pins s2 σ H2 x y v ov iv u _ I2 r1 r2 r q2) fun _ s3 ⟨H3,I3,q3⟩=> ?_))))
 exact wpAny_release ⟨σ,H3,I3,q3⟩
def tAsg (te:TE) (g:TG):TS:=fun D σ H=>te σ H fun x H1=>g x σ H1 D.nx
theorem cQ {tg e:Expr} {te:TE} {g:TG} (he:PE X e te) (hg:PG X tg g) (hs:swapsWithSole [tg] e pos.line X.env=pure false:=by rfl) (hw:swappedStores [tg] e X.env=pure none:=by rfl)
 (h1:(assignEach [tg] X.env).map (·.2)= [assign tg X.env]:=by rfl):PS X (.Assign [tg] e pos) (tAsg te g):=by
 intro pins s σ H D I h
 refine wpAny_Assign_stores (thn (he pins s σ H _ I h) fun v s1 ⟨x,H1,I1,r1,q1⟩=> ?_) hs hw
 rw [h1]
 exact thn (hg pins s1 σ H1 x v _ I1 r1 q1) fun _ s2 q=>q
theorem ar {i:Nat} {x:Str} {e:Expr} {te:TE} {pos':Pos} (hN:X.N.Nodup) (hi:X.N[i]?=some x) (hx:Loc X.env.scope x) (he:PE X e te) (hs:swapsWith e (some (.Name x pos')) pos.line X.env=pure false:=by rfl) (hf:X.fn x=true∨X.env.scope.names.lookup x=some .local:=by first|exact .inl rfl|exact .inr rfl|assumption):
 PS X (.Assign [.Name x pos'] e pos) (tAsg te (bB i)):=by
 intro pins s σ H D I h
 refine wpAny_Assign_Name (thn (he pins s σ H _ I h) fun v s1 ⟨y,H1,I1,r1,q1⟩=> ?_) hs
 exact cp I1 hN hi hx r1 (fun s2 I2=>⟨_,H1,I2,q1⟩) hf
def tPar (i j:Nat) (ta:TA):TS:=fun D σ H=>ta σ H fun vs H1=>∃v w,vs= [v,w]∧D.nx ((σ.set i (some v)).set j (some w)) H1
theorem sN {i j:Nat} {x y:Str} {a b:Expr} {ta:TA} {px py pt:Pos} {kt k2 pt2} (hc:X.calm=true) (hN:X.N.Nodup) (hi:X.N[i]?=some x) (hj:X.N[j]?=some y) (hij:i≠j)
 (hx:X.env.scope.names.lookup x=some .local) (hy:X.env.scope.names.lookup y=some .local) (ha:PA X [a,b] ta)
 (hw:swappedStores [.Tuple [.Name x px, .Name y py] kt pt] (.Tuple [a,b] k2 pt2) X.env=pure (some [x,y]))
 (hs:swapsWithSole [.Tuple [.Name x px, .Name y py] kt pt] (.Tuple [a,b] k2 pt2) pos.line X.env=pure false:=by rfl):
 PS X (.Assign [.Tuple [.Name x px, .Name y py] kt pt] (.Tuple [a,b] k2 pt2) pos) (tPar i j ta):=by
 intro pins s σ H D I h
 rw [exec_Assign_arm]
 refine wpAny_bind (wpAny_standAt ?_)
 rw [hs]
 refine wpAny_bind (wpAny_pure ?_)
 rw [if_neg (by decide)]
 refine wpAny_bind (Tuple_ (thn (ha _ pins s σ H _ I h) fun us s1 ⟨vs,H1,I1,r1,q1⟩=> ?_))
 obtain ⟨v,w,e1,q1⟩:=q1
 subst e1
 obtain ⟨u1,u2,rfl,rv,rw'⟩:∃u1 u2,us= [u1,u2]∧RelV v u1∧RelV w u2:=by
  cases r1 with
  |cons p q=>
   cases q with
   |cons p' q'=>
    cases q'
    exact ⟨_,_,rfl,p,p'⟩
 refine wpAny_newObj_type ?_ (by show 2≤sizeLine;decide)
 have I2:Inv X pins σ H1 {s1 with heap:=s1.heap.push {cls:= .type "tuple",data:= .seq [u1,u2].toArray}}:=I1.kept (t':=s1.toks) fun b o e=>Heap.get?_push_of_some _ e
 rw [hw]
 refine wpAny_bind (wpAny_pure ?_)
 show wpAny (model X.prog X.w) X.A (do rule "assign.swapped-stores";let items←unpackItems (.ref s1.heap.objs.size) 2 none;assignInOrder [fun v=>bindName X.env y v,fun v=>bindName X.env x v] items.reverse;pure Flow.next) _ _ _
 refine wpAny_bind (wpAny_rule (wpAny_bind (unpackItems_tuple (items:= #[u1,u2]) (I.ok.hd hc) (IsTup.new s1.heap _) fun h' hx'=> ?_)))
 have I3:=I2.kept (h':=h') (t':=s1.toks) fun b o e=>hx' b o (vf (Heap.lt_size e)) e
 show wpAny _ _ (assignInOrder [fun v=>bindName X.env y v,fun v=>bindName X.env x v] [u2,u1] >>=fun _=>pure Flow.next) _ _ _
 refine wpAny_bind (assignInOrder_cons (wpAny_bindName (cp I3 hN hj (.inl hy) rw' (fun s2 I4=> ?_) (.inr hy))))
 refine assignInOrder_cons (wpAny_bindName (cp I4 hN hi (.inl hx) rv (fun s3 I5=>assignInOrder_nil (wpAny_pure ?_)) (.inr hx)))
 rw [List.set_comm _ _ (Ne.symm hij)] at I5
 exact ⟨_,H1,I5,q1⟩
end
section
variable {X:Cx} {pos:Pos}
def n9 (c:TT) (tb:TS):TS:=fun D σ H=>∃W:Nat→St→Hp→Prop,(∃m,W m σ H)∧∀m σ H,W m σ H→
 c σ H fun b H1=>if b=true then∃N:St→Hp→Prop,(∀σ' H',N σ' H'→∃m',m' < m∧W m' σ' H')∧tb {D with nx:=N,ct:=N,bk:=D.nx} σ H1 else D.nx σ H1
theorem f8 {c:Expr} {body:List Stmt} {tc:TT} {tb:TS} (hp:PassesOwn (model X.prog X.w) X.A X.env X.xe) (hc:PT X c tc) (hb:PSs X body tb):PS X (.While c body [] pos) (n9 tc tb):=by
 intro pins s σ H D I h
 obtain ⟨W,⟨m0,w0⟩,turn⟩:=h
 refine wpAny_While (codeAny_whileLoop (fun n s'=>∃σ' H',Inv X pins σ' H' s'∧W n σ' H') ?_ m0 ⟨σ,H,I,w0⟩)
 rintro n s1 ⟨σ1,H1,I1,w1⟩
 refine wpAny_passesOwn hp (thn (hc pins s1 σ1 H1 _ I1 (turn n σ1 H1 w1)) fun b s2 ⟨H2,I2,q2⟩=> ?_)
 cases b with
 |true=>
  obtain ⟨N,hN,q2⟩:=q2
  rw [if_pos rfl]
  refine wpAny_passesOwn hp (thn (hb pins s2 σ1 H2 _ I2 q2) fun f s3 q3=> ?_)
  cases f with
  |next=>
   obtain ⟨σ3,H3,I3,n3⟩:=q3
   obtain ⟨m',hm,w3⟩:=hN σ3 H3 n3
   exact ⟨m',hm,σ3,H3,I3,w3⟩
  |cont=>
   obtain ⟨σ3,H3,I3,n3⟩:=q3
   obtain ⟨m',hm,w3⟩:=hN σ3 H3 n3
   exact ⟨m',hm,σ3,H3,I3,w3⟩
  |brk=>exact q3
  |ret v=>exact q3
 |false=>
  rw [if_neg v5]
  exact wpAny_execs_nil ⟨σ1,H2,I2,q2⟩
end
structure It where
 go:Nat→Hp→Prop
 yld:Nat→Hp→V→Hp→Prop
 stop:Nat→Hp→Prop
def FpOk (X:Cx) (pins:List (Addr×Obj)) (H:Hp) (b:Addr):Prop:=
 H b=none∧b≠X.env.locals∧b∉X.fs∧(b∈X.ex∨X.s₀.heap.objs.size≤b)∧(∀x c,X.env.cells.lookup x=some c→c≠b)∧∀p∈X.pn++pins,p.1≠b
theorem Inv.fpOk {X:Cx} {pins:List (Addr×Obj)} {σ:St} {H H':Hp} {s:Shared} {b:Addr} (I:Inv X pins σ H s) (hb:s.heap.objs.size≤b) (hn:H' b=none):FpOk X pins H' b:=by
 refine ⟨hn,Nat.ne_of_gt (v8 I.lt hb),I.nofs hb, .inr (vh I.sz hb),fun x c e z=> ?_,fun p hp z=> ?_⟩
 · obtain ⟨v,q⟩:=I.cell x c e
   exact absurd (v8 q.lt (by rw [z];exact hb)) (Nat.lt_irrefl _)
 · exact absurd (v8 (Heap.lt_size (I.pin p hp).1) (by rw [z];exact hb)) (Nat.lt_irrefl _)
structure Turn (P:Program) (w:World) (K:PySem.W.Frag) (tg:Expr) (J:It) (fp:List Addr) (it:Addr) (tn:Nat→Heap→Prop):Prop where
 mem:it∈fp
 obj:∀i h,tn i h→∀b∈fp,∃o,h.get? b=some o∧∀v,o.data≠ .cell v
 keep:∀i h h',tn i h→(∀b∈fp,∀o,h.get? b=some o→h'.get? b=some o)→tn i h'
 item:∀(X:Cx),X.prog=P→X.w=w→X.K=K→X.calm=true→∀(i:Nat) (pins:List (Addr×Obj)) (s:Shared) (σ:St) (H:Hp) (E:Value→Shared→Prop),Inv X pins σ H s→(∀b∈fp,FpOk X pins H b)→tn i s.heap→J.go i H→
  wpAny (model P w) X.A (pyNext (.ref it)) (fun r s1=>∃u,r=some u∧
   wpAny (model P w) X.A (letOwnedTupleGo tg (.ref it) u) (fun _ s2=>∃x H',Inv X pins σ H' s2∧RelV x u∧J.yld i H x H'∧tn (i+1) s2.heap∧∀b∈fp,H' b=none) E s1) E s
 done:∀(X:Cx),X.prog=P→X.w=w→X.K=K→X.calm=true→∀(i:Nat) (pins:List (Addr×Obj)) (s:Shared) (σ:St) (H:Hp) (E:Value→Shared→Prop),Inv X pins σ H s→(∀b∈fp,FpOk X pins H b)→tn i s.heap→J.stop i H→
  wpAny (model P w) X.A (pyNext (.ref it)) (fun r s1=>r=none∧Inv X pins σ H s1) E s
 self:∀(A:Around) (i:Nat) (s:Shared) (Q:Value→Shared→Prop) (E:Value→Shared→Prop),tn i s.heap→Q (.ref it) s→wpAny (model P w) A (pyIter (.ref it)) Q E s
abbrev TI:=St→Hp→(It→Hp→Prop)→Prop
def PIE (X:Cx) (pins:List (Addr×Obj)) (σ:St) (tg:Expr) (R:It→Hp→Prop) (itv:Value) (s2:Shared):Prop:=
 ∃(it:Addr) (fp:List Addr) (tn:Nat→Heap→Prop) (J:It) (H':Hp),itv= .ref it∧Inv X pins σ H' s2∧Turn X.prog X.w X.K tg J fp it tn∧tn 0 s2.heap∧(∀b∈fp,FpOk X pins H' b)∧R J H'
def PI (X:Cx) (tg iter:Expr) (wi:TI):Prop:=
 ∀(pins:List (Addr×Obj)) (s:Shared) (σ:St) (H:Hp) (R:It→Hp→Prop),Inv X pins σ H s→wi σ H R→
  wpAny (model X.prog X.w) X.A (eval iter X.env) (fun v s1=>wpAny (model X.prog X.w) X.A (pyIter v) (PIE X pins σ tg R) X.xe s1) X.xe s
theorem kO {M:Model} {A:Around} {E:Value→Shared→Prop} {s:Shared} {tg:Expr} {it:Addr} {u:Value} {o:Obj} {n:String} {vs:Array Value} {Q:Unit→Shared→Prop} (ho:s.heap.get? it=some o) (hc:o.cls= .type n) (hd:o.data= .fields vs)
 (hn: ["enumerate","zip","dict_itemiterator","dict_reverseitemiterator","odict_iterator","itertools.zip_longest","itertools.pairwise"].contains n=false) (hQ:Q () s):wpAny M A (letOwnedTupleGo tg (.ref it) u) Q E s:=by
 unfold letOwnedTupleGo
 cases tg<;>first
  |exact wpAny_pure hQ
  |(cases u<;>first
     |exact wpAny_pure hQ
     |(refine wpAny_bind (wpAny_load ho ?_)
       rw [hc,hd]
       show wpAny M A (if (["enumerate","zip","dict_itemiterator","dict_reverseitemiterator","odict_iterator","itertools.zip_longest","itertools.pairwise"].contains n&&vs[0]?==some (rawInt _))=true then _ else _) Q E s
       rw [if_neg (by intro h;rw [hn,Bool.false_and] at h;cases h)]
       exact wpAny_pure hQ))
def Itl (K:PySem.W.Frag) (a:Addr):It:=
 ⟨fun i H=>∃xs x,SqL K H a xs∧xs[i]?=some x,fun i H x H'=>H'=H∧∀xs,SqL K H a xs→xs[i]?=some x,fun i H=>∃xs,SqL K H a xs∧xs.length≤i⟩
def Itr (lo:Int) (n:Nat):It:=⟨fun i _=>i < n,fun i H x H'=>H'=H∧x= .int (lo+i),fun i _=>n≤i⟩
theorem lL {P:Program} {w:World} {K:PySem.W.Frag} {tg:Expr} (a it:Addr):Turn P w K tg (Itl K a) [it] it (fun i h=>h.IsListIter it a i) where
 mem:=by simp
 obj:=fun i h st b hb=>by
  have e:b=it:=by simpa using hb
  subst e
  obtain ⟨o,e,c,d⟩:=st
  exact ⟨o,e,fun v z=>by rw [d] at z;cases z⟩
 keep:=fun i h h' st k=>st.at fun o e=>k it (by simp) o e
 item:=by
  intro X hP hw hK hc i pins s σ H E I hf st hg
  subst hP hw hK
  obtain ⟨xs,x,hq,hx⟩:=hg
  obtain ⟨its,rv,p,hz⟩:=I.list hq
  obtain ⟨u,hu,ru⟩:=rv.get hx
  obtain ⟨f0,f1,f2,f3,f4,f5⟩:=hf it (by simp)
  refine wpAny_pyNext_list_item st p.isList (x:=u) (by simpa using hu) fun h' st' sb=> ?_
  have I1:Inv X pins σ H {s with heap:=h'}:=I.turned (t':=s.toks) (fun b o hb e=>(sb.2 b hb).trans e) f0 f1 f3 f4 f5
  obtain ⟨o,e,c,d⟩:=id st'
  exact ⟨u,rfl,kO (s:= {s with heap:=h'}) e c d (by decide) ⟨x,H,I1,ru,⟨rfl,fun ys hy=>by rw [I.list_inj hy hq];exact hx⟩,st',fun b hb=>(hf b hb).1⟩⟩
 done:=by
  intro X hP hw hK hc i pins s σ H E I hf st hg
  subst hP hw hK
  obtain ⟨xs,hq,hx⟩:=hg
  obtain ⟨its,rv,p,hz⟩:=I.list hq
  obtain ⟨f0,f1,f2,f3,f4,f5⟩:=hf it (by simp)
  have hl:=rv.length
  exact wpAny_pyNext_list_end (I.ok.hd hc) st p.isList (by simp;omega) fun h' eb=>⟨rfl,I.turned (t':=s.toks) (fun b o hb e=>eb b o hb e) f0 f1 f3 f4 f5⟩
 self:=fun _ _ _ _ _ st h=>wpAny_pyIter_listiter st h
theorem jk {P:Program} {w:World} {K:PySem.W.Frag} {tg:Expr} (it:Addr) (lo:Int) (n:Nat):Turn P w K tg (Itr lo n) [it] it (fun i h=>IsRangeIter h it (lo+(i:Nat)*1) ((n:Int) - (i:Nat)) 1) where
 mem:=by simp
 obj:=fun i h st b hb=>by
  have e:b=it:=by simpa using hb
  subst e
  exact ⟨_,st,fun v z=>by
   have z':Data.fields _=Data.cell v:=z
   cases z'⟩
 keep:=fun i h h' st k=>k it (by simp) _ st
 item:=by
  intro X hP hw hK hc i pins s σ H E I hf st hg
  subst hP hw hK
  obtain ⟨f0,f1,f2,f3,f4,f5⟩:=hf it (by simp)
  have W:=Walks.range (prog:=X.prog) (w:=X.w) (I.ok.hd hc) it lo 1 n
  refine W.item i s _ _ hg st fun v h' tk hv st' kk=> ?_
  obtain ⟨t,rfl⟩:=hv
  have I1:Inv X pins σ H {s with heap:=h',toks:=tk}:=I.turned (fun b o hb e=>kk b o (by simpa using hb) e) f0 f1 f3 f4 f5
  refine ⟨_,rfl,kO (s:= {s with heap:=h',toks:=tk}) (n:="range_iterator") st' rfl rfl (by decide) ⟨.int (lo+i),H,I1,⟨t,?_⟩,⟨rfl,rfl⟩,st',fun b hb=>(hf b hb).1⟩⟩
  rw [Int.mul_one]
 done:=by
  intro X hP hw hK hc i pins s σ H E I hf st hg
  subst hP hw hK
  obtain ⟨f0,f1,f2,f3,f4,f5⟩:=hf it (by simp)
  exact wpAny_pyNext_range_end (I.ok.hd hc) st (by have:n≤i:=hg;omega) fun h' eb=>⟨rfl,I.turned (t':=s.toks) (fun b o hb e=>eb b o hb e) f0 f1 f3 f4 f5⟩
 self:=fun _ _ _ _ _ st h=>wpAny_pyIter_rangeiter st h
open PySem PySem.Spec PyProof.Rows
section
variable {X:Cx} {tg:Expr}
def rS (K:PySem.W.Frag) (tl:TE):TI:=fun σ H R=>tl σ H fun x H1=>∃a,x= .ref a∧(∃xs,SqL K H1 a xs)∧R (Itl K a) H1
theorem i4 {l:Expr} {tl:TE} (hl:PE X l tl):PI X tg l (rS X.K tl):=by
 intro pins s σ H R I h
 refine thn (hl pins s σ H _ I h) fun v s1 ⟨x,H1,I1,r1,q1⟩=> ?_
 obtain ⟨a,e,⟨xs,hq⟩,q⟩:=q1
 subst e
 cases r1
 obtain ⟨its,rv,p,hz⟩:=I1.list hq
 refine wpAny_pyIter_list p.isList ?_
 refine ⟨s1.heap.objs.size,[s1.heap.objs.size],_,_,H1,rfl,I1.kept (t':=s1.toks) fun b o e=>Heap.get?_push_of_some _ e,lL a _,⟨_,Heap.get?_push_size _ rfl,rfl,rfl⟩,fun b hb=> ?_,q⟩
 have e:b=s1.heap.objs.size:=by simpa using hb
 subst e
 exact I1.fpOk (uW _) (I1.hok.fresh (uW _))
theorem o0 {pins:List (Addr×Obj)} {σ:St} {H:Hp} {s:Shared} {R:It→Hp→Prop} {E:Value→Shared→Prop} {lo hi:Int} {t u v:Tok} {tk:Nat} (I:Inv X pins σ H s) (h1:-(2^62)≤lo) (h2:lo < 2^62) (h3:-(2^62)≤hi) (h4:hi < 2^62)
 (q:R (Itr lo (hi - lo).toNat) H):wpAny (model X.prog X.w) X.A (pyIter (.ref s.heap.objs.size)) (PIE X pins σ tg R) E {s with heap:=s.heap.push {cls:= .type "range",data:= .fields #[.int lo t, .int hi u, .int 1 v]},toks:=tk}:=by
 refine wpAny_pyIter_range (IsRange.new ..) (small_one h1 h2 h3 h4) ?_
 have I1:Inv X pins σ H {s with heap:=s.heap.push {cls:= .type "range",data:= .fields #[.int lo t, .int hi u, .int 1 v]},toks:=tk}:=I.kept fun b o e=>Heap.get?_push_of_some _ e
 refine ⟨(s.heap.push {cls:= .type "range",data:= .fields #[.int lo t, .int hi u, .int 1 v]}).objs.size,[(s.heap.push {cls:= .type "range",data:= .fields #[.int lo t, .int hi u, .int 1 v]}).objs.size],_,_,H,rfl,
  I1.kept (t':=tk) fun b o e=>Heap.get?_push_of_some _ e,jk _ lo (hi - lo).toNat,?_,fun b hb=> ?_,q⟩
 · have e1:lo+((0:Nat):Int)*1=lo:=by simp
   have e2:(((hi - lo).toNat:Nat):Int) - ((0:Nat):Int)=Builtin.Range.rangeSize lo hi 1:=by rw [rangeSize_one];split<;>omega
   show IsRangeIter _ _ (lo+((0:Nat):Int)*1) ((((hi - lo).toNat:Nat):Int) - ((0:Nat):Int)) 1
   rw [e1,e2]
   exact Heap.get?_push_size _ rfl
 · have e:b=(s.heap.push {cls:= .type "range",data:= .fields #[.int lo t, .int hi u, .int 1 v]}).objs.size:=by simpa using hb
   subst e
   exact I1.fpOk (uW _) (I1.hok.fresh (uW _))
def uK (ta:TA):TI:=fun σ H R=>ta σ H fun vs H1=>∃j:Int,vs= [.int j]∧ -(2^62)≤j∧j < 2^62∧R (Itr 0 j.toNat) H1
theorem dQ {a:Expr} {ta:TA} {p pos:Pos} (hg:Gl X "range") (hm:X.mg "range"=none) (ha:PA X [a] ta) (hs:starEach [a] X.env= [(false,eval a X.env)]:=by rfl):PI X tg (.Call (.Name "range" p) [a] [] pos) (uK ta):=by
 intro pins s σ H R I h
 refine Call_ (cT I hg hm boot_range (PyProof.Rows.callWith_type1 (thn (ha pos pins s σ H _ I h) fun us s1 ⟨vs,H1,I1,r1,q1⟩=> ?_) hs rfl))
 obtain ⟨j,e,q1,q2,q⟩:=q1
 subst e
 cases r1 with
 |cons r rr=>
  cases rr
  obtain ⟨t,rfl⟩:=r
  exact call_range_1 (o0 I1 (by omega) (by omega) q1 q2 (by simpa using q))
def tFor (wi:TI) (g:TG) (tb:TS):TS:=fun D σ H=>wi σ H fun J H1=>∃W:Nat→Nat→St→Hp→Prop,(∃m,W 0 m σ H1)∧∀i m σ H,W i m σ H→
 (J.stop i H∧D.nx σ H)∨(J.go i H∧∃N:St→Hp→Prop,(∀σ' H',N σ' H'→∃m',m' < m∧W (i+1) m' σ' H')∧∀x H',J.yld i H x H'→g x σ H' fun σ2 H2=>tb {D with nx:=N,ct:=N,bk:=D.nx} σ2 H2)
noncomputable def dP (fp:List Addr) (h:Heap):List (Addr×Obj):=fp.filterMap fun b=>(h.get? b).map fun o=>(b,o)
theorem bH {fp:List Addr} {h:Heap} {b:Addr} {o:Obj} (hb:b∈fp) (e:h.get? b=some o):(b,o)∈dP fp h:=List.mem_filterMap.mpr ⟨b,hb,by rw [e];rfl⟩
theorem m8 {fp:List Addr} {h:Heap} {p:Addr×Obj} (hp:p∈dP fp h):p.1∈fp∧h.get? p.1=some p.2:=by
 obtain ⟨b,hb,e⟩:=List.mem_filterMap.mp hp
 cases q:h.get? b with
 |none=>rw [q] at e;cases e
 |some o=>
  rw [q] at e
  have e':(b,o)=p:=vk e
  subst e'
  exact ⟨hb,q⟩
theorem Inv.pinned {pins:List (Addr×Obj)} {σ:St} {H:Hp} {s:Shared} {fp:List Addr} (I:Inv X pins σ H s) (hf:∀b∈fp,FpOk X pins H b) (ho:∀b∈fp,∃o,s.heap.get? b=some o∧∀v,o.data≠ .cell v):Inv X (pins++dP fp s.heap) σ H s:=
 I.pins_of fun p hp=>(vH.mp hp).elim (fun z=>I.pin p (vm _ z)) fun z=>by
  obtain ⟨hb,e⟩:=m8 z
  obtain ⟨f0,f1,f2,_⟩:=hf p.1 hb
  obtain ⟨o,e',d⟩:=ho p.1 hb
  rw [e] at e';cases e'
  exact ⟨e,f0,f1,f2,d⟩
theorem Inv.unpinned {pins pl:List (Addr×Obj)} {σ:St} {H:Hp} {s:Shared} (I:Inv X (pins++pl) σ H s):Inv X pins σ H s:=I.pins_of fun p hp=>I.pin p (vm _ (List.mem_append_left _ hp))
theorem d8 {iter:Expr} {body:List Stmt} {wi:TI} {g:TG} {tb:TS} {pos:Pos} (hp:PassesOwn (model X.prog X.w) X.A X.env X.xe) (hc:X.calm=true) (hi:PI X tg iter wi) (hg:PG X tg g) (hb:PSs X body tb)
 (hs:∀x,foldedSetIterable iter X.env x=pure x:=by intro _;rfl):PS X (.For tg iter body [] pos) (tFor wi g tb):=by
 intro pins s σ H D I h
 refine wpAny_For (thn (hi pins s σ H _ I h) fun v s1 h1=>thn h1 fun itv s2 h2=> ?_) hs
 obtain ⟨it,fp,tn,J,H2,e,I2,T,st2,f2,W,⟨m0,w0⟩,turn⟩:=h2
 subst e
 have stat:∀ {H':Hp},(∀b∈fp,H' b=none)→∀b∈fp,FpOk X pins H' b:=fun hn b hb=>⟨hn b hb,(f2 b hb).2⟩
 refine codeAny_forLoop_any (fun n s'=>∃i σ' H',Inv X pins σ' H' s'∧tn i s'.heap∧(∀b∈fp,H' b=none)∧W i n σ' H') ?_ m0 ⟨0,σ,H2,I2,st2,fun b hb=>(f2 b hb).1,w0⟩
 rintro n s3 ⟨i,σ3,H3,I3,st3,fr3,w3⟩
 rcases turn i n σ3 H3 w3 with ⟨stop,qn⟩|⟨go,N,hN,step⟩
 · refine wpAny_passesOwn hp (thn (T.done X rfl rfl rfl hc i pins s3 σ3 H3 X.xe I3 (stat fr3) st3 stop) fun r s4 ⟨hr,I4⟩=> ?_)
   subst hr
   exact wpAny_execs_nil ⟨σ3,H3,I4,qn⟩
 · refine wpAny_passesOwn hp (thn (T.item X rfl rfl rfl hc i pins s3 σ3 H3 X.xe I3 (stat fr3) st3 go) fun r s4 ⟨u,hr,h4⟩=> ?_)
   subst hr
   refine wpAny_passesOwn hp (thn h4 fun _ s5 ⟨x,H5,I5,r5,y5,st5,fr5⟩=> ?_)
   have I5':=I5.pinned (stat fr5) (T.obj _ _ st5)
   refine wpAny_passesOwn hp (thn (hg _ s5 σ3 H5 x u _ I5' r5 (step x H5 y5)) fun _ s6 ⟨σ6,H6,I6,q6⟩=> ?_)
   refine wpAny_passesOwn hp (thn (hb _ s6 σ6 H6 _ I6 q6) fun f s7 q7=> ?_)
   have again:∀ {σ7:St} {H7:Hp},Inv X (pins++dP fp s5.heap) σ7 H7 s7→N σ7 H7→∃m,m < n∧∃i σ' H',Inv X pins σ' H' s7∧tn i s7.heap∧(∀b∈fp,H' b=none)∧W i m σ' H':=fun {σ7 H7} I7 n7=>by
    obtain ⟨m',hm,w7⟩:=hN σ7 H7 n7
    refine ⟨m',hm,i+1,σ7,H7,I7.unpinned,T.keep _ _ _ st5 fun b hb o e=>(I7.pin (b,o) (vm _ (vm _ (bH hb e)))).1,fun b hb=> ?_,w7⟩
    obtain ⟨o,e,d⟩:=T.obj _ _ st5 b hb
    exact (I7.pin (b,o) (vm _ (vm _ (bH hb e)))).2.1
   cases f with
   |next=>obtain ⟨σ7,H7,I7,n7⟩:=q7;exact again I7 n7
   |cont=>obtain ⟨σ7,H7,I7,n7⟩:=q7;exact again I7 n7
   |brk=>obtain ⟨σ7,H7,I7,q7⟩:=q7;exact ⟨σ7,H7,I7.unpinned,q7⟩
   |ret v=>obtain ⟨x7,σ7,H7,I7,r7,q7⟩:=q7;exact ⟨x7,σ7,H7,I7.unpinned,r7,q7⟩
end
theorem dX {lo:Int} {n:Nat} {g:TG} {tb:TS} {D:Ends} {σ:St} {H:Hp} (Pv:Nat→St→Hp→Prop) (h0:Pv 0 σ H)
 (hs:∀i σ H,i < n→Pv i σ H→g (.int (lo+i)) σ H fun σ2 H2=>tb {D with nx:=Pv (i+1),ct:=Pv (i+1),bk:=D.nx} σ2 H2) (hd:∀σ H,Pv n σ H→D.nx σ H):
 ∃W:Nat→Nat→St→Hp→Prop,(∃m,W 0 m σ H)∧∀i m σ H,W i m σ H→
  ((Itr lo n).stop i H∧D.nx σ H)∨((Itr lo n).go i H∧∃N:St→Hp→Prop,(∀σ' H',N σ' H'→∃m',m' < m∧W (i+1) m' σ' H')∧∀x H',(Itr lo n).yld i H x H'→g x σ H' fun σ2 H2=>tb {D with nx:=N,ct:=N,bk:=D.nx} σ2 H2):=by
 refine ⟨fun i m σ H=>m=n - i∧i≤n∧Pv i σ H,⟨n,by simp,vF _,h0⟩,?_⟩
 rintro i m σ H ⟨rfl,hi,p⟩
 by_cases hlt:i < n
 · refine .inr ⟨hlt,Pv (i+1),fun σ' H' p'=>⟨n - (i+1),by omega,rfl,hlt,p'⟩,fun x H' y=> ?_⟩
   obtain ⟨e,y⟩:=y
   subst e y
   exact hs i σ _ hlt p
 · have e:i=n:=by omega
   subst e
   exact .inl ⟨uW _,hd σ H p⟩
theorem eM {c:TT} {tb:TS} {D:Ends} {σ:St} {H:Hp} (Pv:St→Hp→Prop) (μ:St→Hp→Nat) (h0:Pv σ H)
 (hs:∀σ H,Pv σ H→c σ H fun b H1=>if b=true then tb {D with nx:=fun σ' H'=>Pv σ' H'∧μ σ' H' < μ σ H,ct:=fun σ' H'=>Pv σ' H'∧μ σ' H' < μ σ H,bk:=D.nx} σ H1 else D.nx σ H1)
 (mono:∀σ H Q Q',(∀b H1,Q b H1→Q' b H1)→c σ H Q→c σ H Q'):n9 c tb D σ H:=by
 refine ⟨fun m σ H=>m=μ σ H∧Pv σ H,⟨_,rfl,h0⟩,?_⟩
 rintro m σ H ⟨rfl,p⟩
 refine mono σ H _ _ (fun b H1 q=> ?_) (hs σ H p)
 cases b with
 |true=>exact ⟨_,fun σ' H' ⟨p',l⟩=>⟨_,l,rfl,p'⟩,q⟩
 |false=>exact q
open PySem PySem.Spec PyProof.Rows
abbrev R2:=V→V→Hp→VK→Prop
def OpR (X:Cx) (f:Value→Value→Sem Value) (r:R2):Prop:=
 ∀(pins:List (Addr×Obj)) (s:Shared) (σ:St) (H:Hp) (x y:V) (v u:Value) (Q:VK),Inv X pins σ H s→RelV x v→RelV y u→r x y H Q→
  wpAny (model X.prog X.w) X.A (f v u) (EP X pins σ Q) X.xe s
def UnR (X:Cx) (f:Value→Sem Value) (r:V→Hp→VK→Prop):Prop:=
 ∀(pins:List (Addr×Obj)) (s:Shared) (σ:St) (H:Hp) (x:V) (v:Value) (Q:VK),Inv X pins σ H s→RelV x v→r x H Q→
  wpAny (model X.prog X.w) X.A (f v) (EP X pins σ Q) X.xe s
def cV (X:Cx) (f:Value) (r:List V→Hp→VK→Prop):Prop:=
 ∀(pins:List (Addr×Obj)) (s:Shared) (σ:St) (H:Hp) (xs:List V) (us:List Value) (Q:VK),Inv X pins σ H s→Vals xs us→r xs H Q→
  wpAny (model X.prog X.w) X.A (call f us) (EP X pins σ Q) X.xe s
def TruR (X:Cx) (r:V→Hp→(Bool→Hp→Prop)→Prop):Prop:=
 ∀(pins:List (Addr×Obj)) (s:Shared) (σ:St) (H:Hp) (x:V) (v:Value) (Q:Bool→Hp→Prop),Inv X pins σ H s→RelV x v→r x H Q→
  wpAny (model X.prog X.w) X.A (truthy v) (TP X pins σ Q) X.xe s
def tOp (r:R2) (ta tb:TE):TE:=fun σ H Q=>ta σ H fun x H1=>tb σ H1 fun y H2=>r x y H2 Q
def tUn (r:V→Hp→VK→Prop) (ta:TE):TE:=fun σ H Q=>ta σ H fun x H1=>r x H1 Q
def rI (C:Int→Int→Prop) (g:Int→Int→V):R2:=fun x y H Q=>∃i j,x= .int i∧y= .int j∧C i j∧Q (g i j) H
def rI0 (g:Int→Int→V):R2:=fun x y H Q=>∃i j,x= .int i∧y= .int j∧Q (g i j) H
def rU (g:Int→V):V→Hp→VK→Prop:=fun x H Q=>∃i,x= .int i∧Q (g i) H
section
variable {X:Cx} {a b c:Expr} {ta tb tc:TE} {pos:Pos}
theorem binT (ha:PE X a ta) (hb:PE X b tb) {pins:List (Addr×Obj)} {s:Shared} {σ:St} {H:Hp} {R:V→V→Hp→Prop} (I:Inv X pins σ H s)
 (h:ta σ H fun x H1=>tb σ H1 fun y H2=>R x y H2) {Q:Value→Shared→Prop} {f:Value→Value→Sem Value}
 (hf:∀v u s2 x y H2,Inv X pins σ H2 s2→RelV x v→RelV y u→R x y H2→wpAny (model X.prog X.w) X.A (f v u) Q X.xe s2):
 wpAny (model X.prog X.w) X.A (eval a X.env) (fun v s₁=>wpAny (model X.prog X.w) X.A (eval b X.env) (fun u s₂=>wpAny (model X.prog X.w) X.A (f v u) Q X.xe s₂) X.xe s₁) X.xe s:=by
 refine thn (ha pins s σ H _ I h) fun v s1 ⟨x,H1,I1,r1,q1⟩=> ?_
 refine thn (hb pins s1 σ H1 _ I1 q1) fun u s2 ⟨y,H2,I2,r2,q2⟩=> ?_
 exact hf v u s2 x y H2 I2 r1 r2 q2
theorem ak {op:Operator} {r:R2} (ho:OpR X (binaryOp op) r) (ha:PE X a ta) (hb:PE X b tb):PE X (.BinOp a op b pos) (tOp r ta tb):=by
 intro pins s σ H Q I h
 exact wpAny_BinOp (binT ha hb I h fun v u s2 x y H2 I2 rx ry q=>ho pins s2 σ H2 x y v u Q I2 rx ry q)
theorem dm {op:UnaryOp} {r:V→Hp→VK→Prop} (ho:UnR X (unaryOp op) r) (ha:PE X a ta):PE X (.UnaryOp op a pos) (tUn r ta):=by
 intro pins s σ H Q I h
 exact UnaryOp_ (thn (ha pins s σ H _ I h) fun v s1 ⟨x,H1,I1,r1,q1⟩=>ho pins s1 σ H1 x v Q I1 r1 q1)
theorem opI {f:Value→Value→Sem Value} {C:Int→Int→Prop} {g:Int→Int→Int}
 (rule:∀(i j:Int) (t u:Tok) (s:Shared) (Q:Value→Shared→Prop) (E:Value→Shared→Prop),C i j→Q (.int (g i j) s.toks) {s with toks:=s.toks+1}→wpAny (model X.prog X.w) X.A (f (.int i t) (.int j u)) Q E s):
 OpR X f (rI C fun i j=> .int (g i j)):=by
 intro pins s σ H x y v u Q I rx ry h
 obtain ⟨i,j,rfl,rfl,hc,q⟩:=h
 obtain ⟨t,rfl⟩:=rx
 obtain ⟨t',rfl⟩:=ry
 exact rule i j t t' s _ _ hc ⟨.int (g i j),H,I.tok _,⟨_,rfl⟩,q⟩
theorem opI0 {f:Value→Value→Sem Value} {g:Int→Int→Int}
 (rule:∀(i j:Int) (t u:Tok) (s:Shared) (Q:Value→Shared→Prop) (E:Value→Shared→Prop),Q (.int (g i j) s.toks) {s with toks:=s.toks+1}→wpAny (model X.prog X.w) X.A (f (.int i t) (.int j u)) Q E s):
 OpR X f (rI0 fun i j=> .int (g i j)):=by
 intro pins s σ H x y v u Q I rx ry h
 obtain ⟨i,j,rfl,rfl,q⟩:=h
 obtain ⟨t,rfl⟩:=rx
 obtain ⟨t',rfl⟩:=ry
 exact rule i j t t' s _ _ ⟨.int (g i j),H,I.tok _,⟨_,rfl⟩,q⟩
theorem opB0 {f:Value→Value→Sem Value} {g:Int→Int→Bool}
 (rule:∀(i j:Int) (t u:Tok) (s:Shared) (Q:Value→Shared→Prop) (E:Value→Shared→Prop),Q (.bool (g i j)) s→wpAny (model X.prog X.w) X.A (f (.int i t) (.int j u)) Q E s):
 OpR X f (rI0 fun i j=> .bl (g i j)):=by
 intro pins s σ H x y v u Q I rx ry h
 obtain ⟨i,j,rfl,rfl,q⟩:=h
 obtain ⟨t,rfl⟩:=rx
 obtain ⟨t',rfl⟩:=ry
 exact rule i j t t' s _ _ ⟨.bl (g i j),H,I,rfl,q⟩
def CDiv (i j:Int):Prop:=0 < j∧j < 1073741824
def CMul (i j:Int):Prop:=(-(2^64) < i∧i < 2^64)∨(-(2^64) < j∧j < 2^64)
theorem CMul.ok {i j:Int} (h:CMul i j):IntMulOk i j:=by
 rcases h with ⟨h1,h2⟩|⟨h1,h2⟩
 · exact .of_left (intBits_le_64 h1 h2)
 · exact .of_right (intBits_le_64 h1 h2)
theorem jj (k:Nat):(0:Int)≤2^k:=by
 rw [two_pow_cast]
 exact Int.natCast_nonneg _
theorem aX:OpR X (binaryOp .Add) (rI0 fun i j=> .int (i+j)):=opI0 fun _ _ _ _ _ _ _ q=>add_int q
theorem sQ:OpR X (binaryOp .Sub) (rI0 fun i j=> .int (i - j)):=opI0 fun _ _ _ _ _ _ _ q=>sub_int q
theorem cy:OpR X (binaryOp .Mult) (rI CMul fun i j=> .int (i*j)):=opI fun _ _ _ _ _ _ _ hc q=>mul_int q hc.ok
theorem qy:OpR X (binaryOp .FloorDiv) (rI CDiv fun i j=> .int (i / j)):=opI fun i j _ _ _ _ _ hc q=>by
 have h1:(0:Int) < j:=hc.1
 have h2:j < 1073741824:=hc.2
 exact floordiv_int (by omega) (by rw [vM i (by omega)];exact q) (.inl (PyProof.noPylong_small (by omega)))
theorem bZ:OpR X (binaryOp .Mod) (rI (fun _ j=>0 < j) fun i j=> .int (i%j)):=opI fun i j _ _ _ _ _ hc q=>by
 have h1:(0:Int) < j:=hc
 exact mod_int' (by omega) (by rw [Int.fmod_eq_emod_of_nonneg i (by omega)];exact q)
theorem qw:OpR X (binaryOp .Mod) (rI (fun _ j=>j≠0) fun i j=> .int (i.fmod j)):=opI fun _ _ _ _ _ _ _ hc q=>mod_int' hc q
theorem sR:OpR X (binaryOp .RShift) (rI (fun _ j=>0≤j) fun i j=> .int (i / 2^j.toNat)):=opI fun i j _ _ _ _ _ hc q=>
 rshift_int hc (by rw [vM i (jj _)];exact q)
theorem unI {f:Value→Sem Value} {g:Int→Int}
 (rule:∀(i:Int) (t:Tok) (s:Shared) (Q:Value→Shared→Prop) (E:Value→Shared→Prop),Q (.int (g i) s.toks) {s with toks:=s.toks+1}→wpAny (model X.prog X.w) X.A (f (.int i t)) Q E s):
 UnR X f (rU fun i=> .int (g i)):=by
 intro pins s σ H x v Q I rx h
 obtain ⟨i,rfl,q⟩:=h
 obtain ⟨t,rfl⟩:=rx
 exact rule i t s _ _ ⟨.int (g i),H,I.tok _,⟨_,rfl⟩,q⟩
theorem cv:UnR X (unaryOp .USub) (rU fun i=> .int (-i)):=unI fun _ _ _ _ _ q=>neg_int q
end
noncomputable def scal:V→V→Bool
 | .non, .non=>true| .non, .int _=>true| .int _, .non=>true| .non, .bl _=>true| .bl _, .non=>true| .non, .str _=>true| .str _, .non=>true
 | .int _, .int _=>true| .bl _, .bl _=>true| .str _, .str _=>true| .byt _, .byt _=>true
 | .int _, .str _=>true| .str _, .int _=>true| .bl _, .str _=>true| .str _, .bl _=>true
 |_,_=>false
def rEq:R2:=fun x y H Q=>scal x y=true∧Q (.bl (decide (x=y))) H
def rNe:R2:=fun x y H Q=>scal x y=true∧Q (.bl (!decide (x=y))) H
theorem lA {i j:Int}:decide (V.int i=V.int j)=(i==j):=by
 rw [vD]
 simp
theorem pC {i j:Bool}:decide (V.bl i=V.bl j)=(i==j):=by
 rw [vD]
 simp
theorem lw {i j:Str}:decide (V.str i=V.str j)=(i==j):=by
 rw [vD]
 simp
theorem lB {i j:Array UInt8}:decide (V.byt i=V.byt j)=(i.toList==j.toList):=by
 rw [vD]
 cases i
 cases j
 simp
section
variable {X:Cx} {a b c:Expr} {ta tb tc:TE} {pos:Pos}
theorem aO {pins:List (Addr×Obj)} {σ:St} {H:Hp} {s:Shared} {Q:VK} {k k':Bool} (I:Inv X pins σ H s) (q:Q (.bl k) H) (e:k=k'):EP X pins σ Q (.bool k') s:=by
 subst e
 exact ⟨.bl k,H,I,rfl,q⟩
theorem b9:OpR X (compareOp .Eq) rEq:=by
 intro pins s σ H x y v u Q I rx ry h
 obtain ⟨hs,q⟩:=h
 cases x with
 |non=>
  cases rx
  cases y with
  |non=>cases ry;exact PySem.EqNone.eq_none_none (aO I q (by simp))
  |bl j=>cases ry;exact PySem.EqNone.eq_none_bool (aO I q (by simp))
  |int j=>obtain ⟨t',rfl⟩:=ry;exact PySem.EqNone.eq_none_int (aO I q (by simp))
  |str j=>obtain ⟨t',rfl⟩:=ry;exact PySem.EqNone.eq_none_str (aO I q (by simp))
  |_=>exact absurd (show false=true from hs) v5
 |bl i=>
  cases rx
  cases y with
  |non=>cases ry;exact PySem.EqNone.eq_bool_none (aO I q (by simp))
  |bl j=>cases ry;exact eq_bool (aO I q pC)
  |str j=>obtain ⟨t',rfl⟩:=ry;exact PySem.EqMixed.eq_bool_str (aO I q (by simp))
  |_=>exact absurd (show false=true from hs) v5
 |int i=>
  obtain ⟨t,rfl⟩:=rx
  cases y with
  |non=>cases ry;exact PySem.EqNone.eq_int_none (aO I q (by simp))
  |int j=>obtain ⟨t',rfl⟩:=ry;exact eq_int (aO I q lA)
  |str j=>obtain ⟨t',rfl⟩:=ry;exact PySem.EqMixed.eq_int_str (aO I q (by simp))
  |_=>exact absurd (show false=true from hs) v5
 |str i=>
  obtain ⟨t,rfl⟩:=rx
  cases y with
  |non=>cases ry;exact PySem.EqNone.eq_str_none (aO I q (by simp))
  |bl j=>cases ry;exact PySem.EqMixed.eq_str_bool (aO I q (by simp))
  |int j=>obtain ⟨t',rfl⟩:=ry;exact PySem.EqMixed.eq_str_int (aO I q (by simp))
  |str j=>obtain ⟨t',rfl⟩:=ry;exact eq_str (aO I q lw)
  |_=>exact absurd (show false=true from hs) v5
 |byt i=>
  obtain ⟨t,rfl⟩:=rx
  cases y with
  |byt j=>obtain ⟨t',rfl⟩:=ry;exact PySem.W.eq_bytes (aO I q lB)
  |_=>exact absurd (show false=true from hs) v5
 |_=>cases y<;>exact absurd (show false=true from hs) v5
theorem cF:OpR X (compareOp .NotEq) rNe:=by
 intro pins s σ H x y v u Q I rx ry h
 obtain ⟨hs,q⟩:=h
 cases x with
 |non=>
  cases rx
  cases y with
  |non=>cases ry;exact PySem.EqNone.ne_none_none (aO I q (by simp))
  |bl j=>cases ry;exact PySem.EqNone.ne_none_bool (aO I q (by simp))
  |int j=>obtain ⟨t',rfl⟩:=ry;exact PySem.EqNone.ne_none_int (aO I q (by simp))
  |str j=>obtain ⟨t',rfl⟩:=ry;exact PySem.EqNone.ne_none_str (aO I q (by simp))
  |_=>exact absurd (show false=true from hs) v5
 |bl i=>
  cases rx
  cases y with
  |non=>cases ry;exact PySem.EqNone.ne_bool_none (aO I q (by simp))
  |bl j=>cases ry;exact ne_bool (aO I q (congrArg not pC))
  |str j=>obtain ⟨t',rfl⟩:=ry;exact PySem.EqMixed.ne_bool_str (aO I q (by simp))
  |_=>exact absurd (show false=true from hs) v5
 |int i=>
  obtain ⟨t,rfl⟩:=rx
  cases y with
  |non=>cases ry;exact PySem.EqNone.ne_int_none (aO I q (by simp))
  |int j=>obtain ⟨t',rfl⟩:=ry;exact ne_int (aO I q (congrArg not lA))
  |str j=>obtain ⟨t',rfl⟩:=ry;exact PySem.EqMixed.ne_int_str (aO I q (by simp))
  |_=>exact absurd (show false=true from hs) v5
 |str i=>
  obtain ⟨t,rfl⟩:=rx
  cases y with
  |non=>cases ry;exact PySem.EqNone.ne_str_none (aO I q (by simp))
  |bl j=>cases ry;exact PySem.EqMixed.ne_str_bool (aO I q (by simp))
  |int j=>obtain ⟨t',rfl⟩:=ry;exact PySem.EqMixed.ne_str_int (aO I q (by simp))
  |str j=>obtain ⟨t',rfl⟩:=ry;exact ne_str (aO I q (congrArg not lw))
  |_=>exact absurd (show false=true from hs) v5
 |byt i=>
  obtain ⟨t,rfl⟩:=rx
  cases y with
  |byt j=>obtain ⟨t',rfl⟩:=ry;exact PySem.W.ne_bytes (aO I q (congrArg not lB))
  |_=>exact absurd (show false=true from hs) v5
 |_=>cases y<;>exact absurd (show false=true from hs) v5
theorem eD:OpR X (compareOp .Lt) (rI0 fun i j=> .bl (decide (i < j))):=opB0 fun _ _ _ _ _ _ _ q=>lt_int q
theorem rM:OpR X (compareOp .LtE) (rI0 fun i j=> .bl (decide (i≤j))):=opB0 fun _ _ _ _ _ _ _ q=>le_int q
theorem gn:OpR X (compareOp .Gt) (rI0 fun i j=> .bl (decide (j < i))):=opB0 fun _ _ _ _ _ _ _ q=>gt_int q
theorem uu:OpR X (compareOp .GtE) (rI0 fun i j=> .bl (decide (j≤i))):=opB0 fun _ _ _ _ _ _ _ q=>ge_int q
theorem fe:OpR X (compareOp .Is) (fun x y H Q=>y= .non∧Q (.bl (decide (x= .non))) H):=by
 intro pins s σ H x y v u Q I rx ry h
 obtain ⟨rfl,q⟩:=h
 cases ry
 refine is_none_gen (aO I q ?_)
 cases x<;>first
  |(cases rx;rfl)
  |(obtain ⟨t,rfl⟩:=rx;rfl)
theorem dy:OpR X (compareOp .NotIn) (fun x y H Q=>∃i j,x= .str i∧y= .str j∧Q (.bl (!(!(Builtin.Str.occurrences j i 0 j.length 1).isEmpty))) H):=by
 intro pins s σ H x y v u Q I rx ry h
 obtain ⟨i,j,rfl,rfl,q⟩:=h
 obtain ⟨t,rfl⟩:=rx
 obtain ⟨t',rfl⟩:=ry
 exact notIn_str (aO I q rfl)
theorem ao (b:Expr) {op:CmpOp} (h:op≠ .In:=by decide) (h2:op≠ .NotIn:=by decide):behindInMarks op b=false:=by
 have e1:(op==CmpOp.In)=false:=by cases op<;>first|rfl|exact absurd rfl h
 have e2:(op==CmpOp.NotIn)=false:=by cases op<;>first|rfl|exact absurd rfl h2
 cases b<;>simp [behindInMarks,e1,e2]
theorem dw {op:CmpOp} {r:R2} (ho:OpR X (compareOp op) r) (ha:PE X a ta) (hb:PE X b tb) (hm:behindInMarks op b=false):PE X (.Compare a [op] [b] pos) (tOp r ta tb):=by
 intro pins s σ H Q I h
 exact wpAny_Compare1 (binT ha hb I h fun v u s2 x y H2 I2 rx ry q=>ho pins s2 σ H2 x y v u Q I2 rx ry q) hm
def rE (t:TE):TT:=fun σ H Q=>t σ H fun x H'=>∃k,x= .bl k∧Q k H'
theorem ah {op:CmpOp} {r:R2} (ho:OpR X (compareOp op) r) (ha:PE X a ta) (hb:PE X b tb) (hm:behindInMarks op b=false):PT X (.Compare a [op] [b] pos) (rE (tOp r ta tb)):=by
 intro pins s σ H Q I h
 refine wpAny_isTrue_Compare1 (thn (ha pins s σ H _ I h) fun v s1 ⟨x,H1,I1,r1,q1⟩=>thn (hb pins s1 σ H1 _ I1 q1) fun u s2 ⟨y,H2,I2,r2,q2⟩=>
  thn (ho pins s2 σ H2 x y v u _ I2 r1 r2 q2) fun c s3 ⟨z,H3,I3,r3,k,e,q3⟩=> ?_) hm
 subst e
 cases r3
 exact wpAny_truthy_bool ⟨H3,I3,q3⟩
def nj (r r':R2) (ta tb tc:TE):TE:=fun σ H Q=>ta σ H fun x H1=>tb σ H1 fun y H2=>r x y H2 fun z H3=>∃k,z= .bl k∧
 (if k=true then tc σ H3 fun w' H4=>r' y w' H4 Q else Q (.bl false) H3)
theorem om {op op':CmpOp} {r r':R2} (ho:OpR X (compareOp op) r) (ho':OpR X (compareOp op') r') (ha:PE X a ta) (hb:PE X b tb) (hc:PE X c tc)
 (hm:lastMarks [op,op'] [b,c]=false:=by with_unfolding_all rfl):PE X (.Compare a [op,op'] [b,c] pos) (nj r r' ta tb tc):=by
 intro pins s σ H Q I h
 refine Compare_chain (thn (ha pins s σ H _ I h) fun v s1 ⟨x,H1,I1,r1,q1⟩=>chain_link (thn (hb pins s1 σ H1 _ I1 q1) fun u s2 ⟨y,H2,I2,r2,q2⟩=>
  thn (ho pins s2 σ H2 x y v u _ I2 r1 r2 q2) fun d s3 ⟨z,H3,I3,r3,k,e,q3⟩=> ?_)) hm
 subst e
 cases r3
 refine wpAny_truthy_bool ?_
 cases k with
 |false=>exact ite_ff ⟨.bl false,H3,I3,rfl,q3⟩
 |true=>exact ite_tt (chain_last (thn (hc pins s3 σ H3 _ I3 q3) fun w' s4 ⟨z',H4,I4,r4,q4⟩=>ho' pins s4 σ H4 y z' u w' Q I4 r2 r4 q4))
theorem o8 {op op':CmpOp} {r r':R2} (ho:OpR X (compareOp op) r) (ho':OpR X (compareOp op') r') (ha:PE X a ta) (hb:PE X b tb) (hc:PE X c tc)
 (hm:lastMarks [op,op'] [b,c]=false:=by with_unfolding_all rfl):PT X (.Compare a [op,op'] [b,c] pos) (rE (nj r r' ta tb tc)):=by
 intro pins s σ H Q I h
 refine isTrue_chain (thn (ha pins s σ H _ I h) fun v s1 ⟨x,H1,I1,r1,q1⟩=>test_link (thn (hb pins s1 σ H1 _ I1 q1) fun u s2 ⟨y,H2,I2,r2,q2⟩=>
  thn (ho pins s2 σ H2 x y v u _ I2 r1 r2 q2) fun d s3 ⟨z,H3,I3,r3,k,e,q3⟩=> ?_)) hm
 subst e
 cases r3
 refine wpAny_truthy_bool ?_
 cases k with
 |false=>
  obtain ⟨k',e',q'⟩:=q3
  cases e'
  exact ite_ff ⟨H3,I3,q'⟩
 |true=>
  refine ite_tt (test_last (thn (hc pins s3 σ H3 _ I3 q3) fun w' s4 ⟨z',H4,I4,r4,q4⟩=>thn (ho' pins s4 σ H4 y z' u w' _ I4 r2 r4 q4) fun d' s5 ⟨z2,H5,I5,r5,k2,e2,q5⟩=> ?_))
  subst e2
  cases r5
  exact wpAny_truthy_bool ⟨H5,I5,q5⟩
def TruV (K:PySem.W.Frag) (x:V) (H:Hp) (k:Bool):Prop:=
 match x with
 | .non=>k=false
 | .bl b=>k=b
 | .int i=>k=(i !=0)
 | .str y=>y.length≤sizeLine∧k=((y.length:Int) !=0)
 | .byt y=>y.size≤sizeLine∧k=((y.size:Int) !=0)
 | .ref p=>(∃xs,SqL K H p xs∧k= !xs.isEmpty)∨(∃xs,SqT K H p xs∧k= !xs.isEmpty)∨∃kvs,H p=some (.dK kvs)∧k= !kvs.isEmpty
 |_=>False
theorem jD {κ:Type} {kvs:List (κ×V)} {vs:List (κ×Value)} (r:KV kvs vs):(!vs.isEmpty)= !kvs.isEmpty:=by
 cases r<;>rfl
theorem fm {xs:List V} {its:List Value} (r:Vals xs its):(!its.toArray.isEmpty)= !xs.isEmpty:=by
 cases r<;>simp
theorem cS:(sizeLine:Nat) < 2^63:=by rw [sizeLine_eq];decide
theorem sq:TruR X (fun x H Q=>∃k,TruV X.K x H k∧Q k H):=by
 intro pins s σ H x v Q I rx h
 obtain ⟨k,e,q⟩:=h
 have hl:=cS
 have hs:sizeLine=16777216:=sizeLine_eq
 cases x with
 |non=>
  cases rx
  have e':k=false:=e
  subst e'
  exact truthy_none ⟨H,I,q⟩
 |bl b=>
  cases rx
  have e':k=b:=e
  subst e'
  exact wpAny_truthy_bool ⟨H,I,q⟩
 |int i=>
  obtain ⟨t,rfl⟩:=rx
  have e':k=(i !=0):=e
  subst e'
  exact PySem.P.truthy_int ⟨H,I,q⟩
 |str y=>
  obtain ⟨t,rfl⟩:=rx
  obtain ⟨hy,e'⟩:y.length≤sizeLine∧k=((y.length:Int) !=0):=e
  subst e'
  exact PySem.P.truthy_str (by omega) ⟨H,I.tok _,q⟩
 |byt y=>
  obtain ⟨t,rfl⟩:=rx
  obtain ⟨hy,e'⟩:y.size≤sizeLine∧k=((y.size:Int) !=0):=e
  subst e'
  exact PySem.W.truthy_bytes (by omega) ⟨H,I.tok _,q⟩
 |ref p=>
  cases rx
  have e':(∃xs,SqL X.K H p xs∧k= !xs.isEmpty)∨(∃xs,SqT X.K H p xs∧k= !xs.isEmpty)∨∃kvs,H p=some (.dK kvs)∧k= !kvs.isEmpty:=e
  rcases e' with ⟨xs,hx,e'⟩|⟨xs,hx,e'⟩|⟨kvs,hx,e'⟩
  · subst e'
    obtain ⟨its,r,pl,hz⟩:=I.list hx
    have hlen:=r.length
    exact wpAny_truthy_list pl.isList (by simp only [uY];omega) ⟨H,I.tok _,by rw [fm r];exact q⟩
  · subst e'
    obtain ⟨its,r,pl,hz⟩:=I.tuple hx
    have hlen:=r.length
    exact truthy_tuple pl (by simp only [uY];omega) ⟨H,I.tok _,by rw [fm r];exact q⟩
  · subst e'
    obtain ⟨hz,hS,vs,r,m⟩:kvs.length≤sizeLine∧(p==sysModules)=false∧∃vs,KV kvs vs∧s.heap.DictOf (aV X.prog X.w) p vs:=I.hok p _ hx
    have hlen:kvs.length=vs.length:=Paired.length r
    exact wpAny_truthy_dict hS m (by omega) ⟨H,I.tok _,by rw [jD r];exact q⟩
 |_=>exact (show False from e).elim
theorem o5 (ha:PE X a ta) (he:∀whole,isTrue a X.env whole=(do let v←whole;standAt a.pos;holding [v] (truthy v))):
 PT X a (fun σ H Q=>ta σ H fun x H'=>∃k,TruV X.K x H' k∧Q k H'):=by
 intro pins s σ H Q I h
 exact isTrue_plain (thn (ha pins s σ H _ I h) fun v s1 ⟨x,H1,I1,r1,q1⟩=>sq pins s1 σ H1 x v Q I1 r1 q1) (he _)
theorem ay:OpR X (binaryOp .Add) (fun x y H Q=>∃i j,x= .str i∧y= .str j∧i.length+j.length≤sizeLine∧Q (.str (i++j)) H):=by
 intro pins s σ H x y v u Q I rx ry h
 obtain ⟨i,j,rfl,rfl,hz,q⟩:=h
 obtain ⟨t,rfl⟩:=rx
 obtain ⟨t',rfl⟩:=ry
 exact add_str (fun t' tk=>⟨.str (i++j),H,I.tok _,⟨_,rfl⟩,q⟩) hz
theorem eP {x:V} {us:List Value} (r:Vals [x] us):∃u,us= [u]∧RelV x u:=by
 cases r with
 |cons r1 r2=>cases r2;exact ⟨_,rfl,r1⟩
theorem jc:cV X (.builtin "abs") (fun xs H Q=>∃i,xs= [.int i]∧Q (.int (if i < 0 then -i else i)) H):=by
 intro pins s σ H xs us Q I r h
 obtain ⟨i,rfl,q⟩:=h
 obtain ⟨u,rfl,t,rfl⟩:=eP r
 exact call_abs_int fun u tk=>⟨.int (if i < 0 then -i else i),H,I.tok _,⟨_,rfl⟩,q⟩
theorem bQ:cV X (.type "str") (fun xs H Q=>∃i,xs= [.int i]∧i.natAbs.log2 < 1920∧Q (.str (toString i)) H):=by
 intro pins s σ H xs us Q I r h
 obtain ⟨i,rfl,hz,q⟩:=h
 obtain ⟨u,rfl,t,rfl⟩:=eP r
 exact PySem.P.str_of_int hz ⟨.str _,H,I.tok _,⟨_,rfl⟩,q⟩
end
open PySem PySem.Spec PyProof.Rows
structure ObjM (h:Heap) (x dx C:Addr) (mA:Str→Option Value):Prop where
 obj:h.get? x=some (PySem.W.instObj C dx)
 ns:h.Ns1 dx mA
 ne:dx≠x
theorem mf {h:Heap} {dx:Addr} {mA:Str→Option Value} (n:h.Ns1 dx mA):∃od,h.get? dx=some od∧∀name,PySem.W.lookIn name od=some (mA name):=by
 obtain ⟨o,es,ep,ho,hd,hk,_,hm⟩:=n
 refine ⟨o,ho,fun name=> ?_⟩
 have e:=hm name
 unfold nsFind findBy at e
 rw [←Array.find?_toList] at e
 unfold PySem.W.lookIn
 rw [hd]
 dsimp only
 split
 · rename_i y q
   rw [q] at e
   exact congrArg some e
 · rename_i q
   rw [q] at e
   have a:es.toList.any (·.refKey)=false:=by
    rw [List.any_eq_false]
    intro y hy
    obtain ⟨z,t,hkey⟩:=hk y (Array.mem_toList_iff.mp hy)
    simp [DictEntry.refKey,hkey]
   have a':¬es.toList.any (·.refKey)=true:=by rw [a];exact v5
   rw [if_neg a']
   exact congrArg some e
theorem ObjM.look {h:Heap} {x dx C:Addr} {mA:Str→Option Value} (I:ObjM h x dx C mA):∃od,PySem.W.InstAt h x (PySem.W.instObj C dx) C (some od)∧∀name,PySem.W.lookIn name od=some (mA name):=
 let ⟨od,ho,hl⟩:=mf I.ns
 ⟨od,⟨I.obj,rfl,rfl,ho⟩,hl⟩
section
variable {prog:Program} {w:World} {A:Around} {E:Value→Shared→Prop} {s:Shared} {K:PySem.W.Frag} {x dx C f:Addr} {mA:Str→Option Value} {name:Str} {v:Value}
end
theorem RelO.some_of {v:V} {o:Option Value} (r:RelO (some v) o):∃u,o=some u∧RelV v u:=by
 cases o with
 |none=>exact (show False from r).elim
 |some u=>exact ⟨u,rfl,r⟩
theorem ml {v:V} {u:Value} (r:RelV v u):PySem.W.handedIn u=true:=by
 cases v with
 |non=>cases (show u=Value.none from r);rfl
 |bl b=>cases (show u=Value.bool b from r);rfl
 |int i=>obtain ⟨t,e⟩:=(show∃t,u=Value.int i t from r);cases e;rfl
 |str x=>obtain ⟨t,e⟩:=(show∃t,u=Value.str x t from r);cases e;rfl
 |byt b=>obtain ⟨t,e⟩:=(show∃t,u=Value.bytes b t from r);cases e;rfl
 |flt b=>obtain ⟨t,e⟩:=(show∃t,u=Value.float b t from r);cases e;rfl
 |ref a=>cases (show u=Value.ref a from r);rfl
 |ty n=>cases (show u=Value.type n from r);rfl
section
variable {P:Program} {w:World} {H H':Hp} {h h':Heap} {a C dx:Addr} {fs fs':List (Str×V)}
theorem qN (hok:HOk P w H h) (e:H a=some (.ins C dx fs)):∃mA,ObjM h a dx C mA∧(∀f,RelO (fs.lookup f) (mA f))∧PySem.Within mA (fs.map (·.1))∧fs.length≤1000∧H dx=some (.own a):=by
 obtain ⟨d,z,ne,ob,mA,n,r,q⟩:=(show ObjOk P w H h a (.ins C dx fs) from hok a _ e)
 exact ⟨mA,⟨ob,n,ne⟩,r,q,z,d⟩
end
structure Cls (K:PySem.W.Frag) (C:Addr):Prop where
 pg:PySem.W.plainGet K C Str.empty=true
 hd:PySem.W.hasDictIn K C=true
 po:PySem.W.plainOver K C=true
 sa:PySem.W.findIn K (.ref C) "__setattr__"=some (some (.builtin "object.__setattr__"))
theorem Cls.get {K:PySem.W.Frag} {C:Addr} (c:Cls K C) (f:Str):PySem.W.plainGet K C f=true:=c.pg
section
variable {X:Cx} {pins:List (Addr×Obj)} {σ:St} {H:Hp} {s:Shared} {a C dx:Addr} {fs:List (Str×V)} {f:Str} {v:V} {A:Around} {E:Value→Shared→Prop}
theorem rf {prog:Program} {w:World} {env:Env} {e:Expr} {f:Str} {pos:Pos} {s:Shared} {Q:Value→Shared→Prop} (hb:attributeBase e f env (eval e env)=eval e env)
 (h:wpAny (model prog w) A (eval e env) (fun o s₁=>wpAny (model prog w) A (getAttr o f true) Q E s₁) E s):wpAny (model prog w) A (eval (.Attribute e f pos) env) Q E s:=
 Attribute_any_ h (by rw [arm_eval_Attribute,hb])
end
section
variable {X:Cx} {o e value:Expr} {f:Str} {pos pos' tpos:Pos} {ta tv:TE}
end
section
variable {X:Cx} {pins:List (Addr×Obj)} {σ:St} {H:Hp} {s:Shared} {A:Around} {E:Value→Shared→Prop} {Q:Value→Shared→Prop} {c:Value} {b:Bool}
inductive TyOf (K:PySem.W.Frag) (H:Hp):V→Value→Prop where
 |non:TyOf K H .non (.type "NoneType")
 |bl (x:Bool):TyOf K H (.bl x) (.type "bool")
 |int (i:Int):TyOf K H (.int i) (.type "int")
 |str (x:Str):TyOf K H (.str x) (.type "str")
 |flt (x:UInt64):TyOf K H (.flt x) (.type "float")
 |lst {a:Addr} {xs:List V} (e:H a=some (.lst xs)):TyOf K H (.ref a) (.type "list")
 |frz {a:Addr} {o:Obj} {xs:List V} (e:H a=some (.frz o (.lst xs))):TyOf K H (.ref a) (.type "list")
 |tup {a:Addr} {xs:List V} (e:H a=some (.tup xs)):TyOf K H (.ref a) (.type "tuple")
 |dK {a:Addr} {kvs:List (Key×V)} (e:H a=some (.dK kvs)):TyOf K H (.ref a) (.type "dict")
 |dT {a:Addr} {kvs:List (List Key×V)} (e:H a=some (.dT kvs)):TyOf K H (.ref a) (.type "dict")
 |ins {a C dx:Addr} {fs:List (Str×V)} (e:H a=some (.ins C dx fs)) (cl:Cls K C) (ha:PySem.W.findIn K (.ref C) "__class__"=some (some (.builtin "object.__class__")))
  (hn:PySem.W.specialIn K (.builtin "object.__class__") "__get__"=some (some (.builtin "getset_descriptor.__get__"))) (htk:PySem.W.takesIn K (.builtin "object.__class__")=some true)
  (hm:PySem.W.mroIn K C (.type "object")=some true):TyOf K H (.ref a) (.ref C)
end
open PySem PySem.Spec PyProof.Rows
structure Room (k:Nat) (A:Around):Prop where
 hd:A.handled=none
 dp:A.depth+3*k+5 < recursionLimit
 un:A.units+16*k+200 < cLine
 gd:A.guards=some []
theorem Room.mono {j k:Nat} {A:Around} (r:Room k A) (h:j≤k):Room j A:=⟨r.hd,by have:=r.dp;omega,by have:=r.un;omega,r.gd⟩
theorem Room.deeper {k:Nat} {A:Around} (r:Room (k+1) A) (env:Env):Room k (A.deeper env):=
 ⟨r.hd,by have:=r.dp;show A.depth+1+3*k+5 < _;omega,by have:=r.un;show A.units+3+16*k+200 < _;omega,by first|exact r.gd|(have:=r.gd;simpa [Around.deeper,Around.under] using this)⟩
theorem Room.in1 {k:Nat} {A:Around} (r:Room (k+1) A):Room k A.in1:=
 ⟨r.hd,by have:=r.dp;show A.depth+3*k+5 < _;omega,by have:=r.un;show A.units+1+16*k+200 < _;omega,r.gd⟩
theorem jA {A:Around} {C:Addr} {us:List Value} {kw:List (Str×Value)}:(A.under (.builtin "type.__call__" ⟨.ref C::us,kw⟩)).depth=A.depth+1:=by
 first|rfl|simp [Around.under,Code.weight,Code.isCreation,Code.isGuard,Code.isCaller,Code.frames,Code.isFrame,guardIds]
theorem jz {A:Around} {C:Addr} {us:List Value} {kw:List (Str×Value)}:(A.under (.builtin "type.__call__" ⟨.ref C::us,kw⟩)).units=A.units+1:=by
 first|rfl|simp [Around.under,Code.cUnits,Code.frames,Code.isFrame]
theorem Room.make {k:Nat} {A:Around} (r:Room (k+1) A) (C:Addr) (us:List Value) (kw:List (Str×Value)):Room k (A.under (.builtin "type.__call__" ⟨.ref C::us,kw⟩)):=
 ⟨r.hd,by have:=r.dp;rw [jA];omega,by have:=r.un;rw [jz];omega,by have:=r.gd;simp [Around.under,Code.guards,Code.isGuard,guardIds,pushGuards,this]⟩
theorem Room.depth {k:Nat} {A:Around} (r:Room k A):A.depth < recursionLimit:=by have:=r.dp;omega
theorem Room.units {k:Nat} {A:Around} (r:Room k A):A.units+64 < cLine:=by have:=r.un;omega
def tNil:TA:=fun _ H Q=>Q [] H
def cn (ta:TE) (tr:TA):TA:=fun σ H Q=>ta σ H fun x H1=>tr σ H1 fun xs H2=>Q (x::xs) H2
section
variable {X:Cx} {e:Expr} {es:List Expr} {te:TE} {t:TA} {pos:Pos}
theorem a8:PA X [] tNil:=fun _ _ _ _ H Q I h=>Calls.spliced_nil ⟨[],H,I, .nil,h⟩
theorem a7 (ha:PE X e te) (hr:PA X es t) (hs:starEach (e::es) X.env=(false,eval e X.env)::starEach es X.env:=by rfl):PA X (e::es) (cn te t):=by
 intro pos pins s σ H Q I h
 rw [hs]
 show wpAny _ _ (spliced ((false,eval e X.env)::backTo pos (starEach es X.env))) _ _ s
 refine Calls.spliced_cons (thn (ha pins s σ H _ I h) fun u s1 ⟨x,H1,I1,r1,q1⟩=> ?_)
 exact thn (hr pos pins s1 σ H1 _ I1 q1) fun us s2 ⟨xs,H2,I2,r2,q2⟩=>⟨x::xs,H2,I2, .cons r1 r2,q2⟩
def tTup (t:TA):TE:=fun σ H Q=>t σ H fun xs H1=>xs.length≤sizeLine∧∀p,H1 p=none→Q (.ref p) (upd H1 p (.tup xs))
def tLst (t:TA):TE:=fun σ H Q=>t σ H fun xs H1=>xs.length≤sizeLine∧∀p,H1 p=none→Q (.ref p) (upd H1 p (.lst xs))
theorem bu {x1} (h:PA X es t):PE X (.Tuple es x1 pos) (tTup t):=by
 intro pins s σ H Q I hq
 refine wpAny_Tuple_spliced (thn (h pos pins s σ H _ I hq) fun us s1 ⟨xs,H1,I1,r,z,q⟩=>⟨by rw [←r.length];exact z,?_⟩)
 have hf:H1 s1.heap.objs.size=none:=I1.hok.fresh (uW _)
 refine ⟨.ref s1.heap.objs.size,upd H1 s1.heap.objs.size (.tup xs),I1.laid (t':=s1.toks) (fun b u e=>Heap.get?_push_of_some _ e) (uW _) ?_,rfl,q _ hf⟩
 exact ⟨z,us,r,⟨_,Heap.get?_push_size _ rfl,rfl,_,rfl⟩⟩
theorem bj (h:PA X es t):PE X (.List es pos) (tLst t):=by
 intro pins s σ H Q I hq
 refine wpAny_List_spliced (thn (h pos pins s σ H _ I hq) fun us s1 ⟨xs,H1,I1,r,z,q⟩=>⟨by rw [←r.length];exact z,?_⟩)
 have hf:H1 s1.heap.objs.size=none:=I1.hok.fresh (uW _)
 refine ⟨.ref s1.heap.objs.size,upd H1 s1.heap.objs.size (.lst xs),I1.laid (t':=s1.toks) (fun b u e=>Heap.get?_push_of_some _ e) (uW _) ?_,rfl,q _ hf⟩
 exact ⟨z,us,0,r,Heap.get?_push_size _ rfl⟩
end
abbrev Sp:=List V→Hp→VK→XK→Prop
abbrev CXT:=List Env→Hp→Shared→XK→Value→Shared→Prop
structure Env0 (P:Program) (w:World) (K:PySem.W.Frag) (mg:Str→Option Value) (base:Heap) (A:Around) (outer:List Env) (s:Shared) (H:Hp):Prop where
 frames:A.frames=some outer
 mod:Mod K mg base
 bs:∀b o,base.get? b=some o→s.heap.get? b=some o∧Idl (H b)
 bsz:base.objs.size≤s.heap.objs.size
 funs:s.heap.FunFrames base outer
 frf:∀b∈frs outer,H b=none
 hok:HOk P w H s.heap
 bare:AllBare s.gens
def CE (outer:List Env) (P:Program) (w:World) (H:Hp) (s:Shared) (Q:VK) (u:Value) (s':Shared):Prop:=
 ∃v H',s'.os=s.os∧AllBare s'.gens∧Un (frs outer) [] H H' s.heap s'.heap∧HOk P w H' s'.heap∧RelV v u∧Q v H'
def CR (CX:CXT) (outer:List Env) (P:Program) (w:World) (H:Hp) (s:Shared) (Q:VK) (E:XK) (r:Result) (s':Shared):Prop:=
 match r with
 | .ok (.ret u)=>CE outer P w H s Q u s'
 | .ok _=>False
 | .error e=>CX outer H s E e s'
structure FnOk (P:Program) (w:World) (K:PySem.W.Frag) (mg:Str→Option Value) (base:Heap) (CX:CXT) (k:Nat) (f:Addr) (fd:FuncData) (ps:List Str) (sp:Sp):Prop where
 len:∀vs H Q E,sp vs H Q E→vs.length=ps.length
 run:∀(A:Around) (outer:List Env) (s:Shared) (H:Hp) (args:Args) (us:List Value) (vs:List V) (Q:VK) (E:XK),Room k A→Env0 P w K mg base A outer s H→BindsTo s fd args (ps.zip us)→Vals vs us→sp vs H Q E→
  codeAny (model P w) A (.call (.ref f) args) (CR CX outer P w H s Q E) s
theorem Env0.make {P:Program} {w:World} {K:PySem.W.Frag} {mg:Str→Option Value} {base:Heap} {A:Around} {outer:List Env} {s:Shared} {H:Hp} (e:Env0 P w K mg base A outer s H) (C:Addr) (us:List Value) (kw:List (Str×Value)):
 Env0 P w K mg base (A.under (.builtin "type.__call__" ⟨.ref C::us,kw⟩)) outer s H:=⟨by first|exact e.frames|(simpa [Around.under,Code.envs,Code.isFrame,pushEnvs] using e.frames),e.mod,e.bs,e.bsz,e.funs,e.frf,e.hok,e.bare⟩
theorem Env0.in1 {P:Program} {w:World} {K:PySem.W.Frag} {mg:Str→Option Value} {base:Heap} {A:Around} {outer:List Env} {s:Shared} {H:Hp} (e:Env0 P w K mg base A outer s H):
 Env0 P w K mg base A.in1 outer s H:=⟨e.frames,e.mod,e.bs,e.bsz,e.funs,e.frf,e.hok,e.bare⟩
section
variable {X:Cx} {pins:List (Addr×Obj)} {σ:St} {H:Hp} {s s':Shared}
theorem Inv.env0 (I:Inv X pins σ H s):Env0 X.prog X.w X.K X.mg X.base X.A X.stack s H:=
 ⟨I.ok.frames,I.ok.mod,I.bs,vh I.ok.bsz I.sz,I.stack,I.stkFree,I.hok,I.bare⟩
theorem Inv.after {Q:VK} {u:Value} (I:Inv X pins σ H s) (h:CE X.stack X.prog X.w H s Q u s'):EP X pins σ Q u s':=by
 obtain ⟨v,H',os,bare,un,hok,r,q⟩:=h
 obtain ⟨hh,g,d,t,os'⟩:=s'
 obtain rfl:os'=s.os:=os
 exact ⟨v,H',I.call (h':=hh) (g':=g) (d':=d) (t':=t) (ch:= []) un hok bare (fun b z=>absurd z (by simp)),r,q⟩
end
def dj (sp:Sp) (dvs:List V) (E:XK) (t:TA):TE:=fun σ H Q=>t σ H fun vs H1=>sp (vs++dvs) H1 Q E
def Binds (K:PySem.W.Frag) (fd:FuncData) (ps:List Str) (ds:List Value):Prop:=
 ∀(s:Shared) (us:List Value),K.In s.heap→(us++ds).length=ps.length→BindsTo s fd ⟨us,[]⟩ (ps.zip (us++ds))
theorem Binds.all {K:PySem.W.Frag} {fd:FuncData} {ps:List Str} (h:∀us:List Value,us.length=ps.length→bindArgs fd ⟨us,[]⟩=pure (ps.zip us)):Binds K fd ps []:=fun s us _ hl=>by
 rw [vB] at hl ⊢
 exact .of_eq (h us hl)
def fQ (CX:CXT) (X:Cx) (E:XK):Prop:=∀(pins:List (Addr×Obj)) (σ:St) (H:Hp) (s:Shared) (e:Value) (s':Shared),Inv X pins σ H s→CX X.stack H s E e s'→X.xe e s'
section
variable {X:Cx} {CX:CXT} {k:Nat} {f C:Addr} {fd:FuncData} {ps:List Str} {sp:Sp} {dvs:List V} {ds:List Value} {E:XK} {x m:Str} {p pos apos:Pos} {e o:Expr} {es:List Expr} {ta:TE} {t:TA}
theorem nY {pins:List (Addr×Obj)} {σ:St} {H:Hp} {s:Shared} {Q:VK} {us:List Value} {vs:List V} (F:FnOk X.prog X.w X.K X.mg X.base CX k f fd ps sp) (hr:Room k X.A) (hb:Binds X.K fd ps ds) (hd:Vals dvs ds) (hx:fQ CX X E)
 (I:Inv X pins σ H s) (r:Vals vs us) (h:sp (vs++dvs) H Q E):wpAny (model X.prog X.w) X.A (call (.ref f) us) (EP X pins σ Q) X.xe s:=by
 have r2:Vals (vs++dvs) (us++ds):=r.append hd
 have hl:(us++ds).length=ps.length:=by rw [←r2.length];exact F.len _ _ _ _ h
 refine wpAny_call (codeAny_mono (F.run X.A X.stack s H ⟨us,[]⟩ (us++ds) (vs++dvs) Q E hr I.env0 (hb s us I.kIn hl) r2 h) fun r s' hq=> ?_)
 cases r with
 |error e=>exact hx pins σ H s e s' I hq
 |ok fl=>
  cases fl with
  |ret u=>exact I.after hq
  |next=>exact False.elim hq
  |brk=>exact False.elim hq
  |cont=>exact False.elim hq
theorem au (F:FnOk X.prog X.w X.K X.mg X.base CX k f fd ps sp) (hr:Room k X.A) (hg:Gl X x) (hm:X.mg x=some (.ref f)) (hk:PySem.W.keepIn X.K (.ref f)=true) (hb:Binds X.K fd ps ds) (hd:Vals dvs ds) (hx:fQ CX X E)
 (ha:PA X (e::es) t) (hdb:(x==("__debug__":Str))=false:=by decide) (he:starEach (e::es) X.env=(false,eval e X.env)::starEach es X.env:=by rfl) (hpl:(backTo pos (starEach es X.env)).any (·.1)=false:=by rfl):
 PE X (.Call (.Name x p) (e::es) [] pos) (dj sp dvs E t):=by
 intro pins s σ H Q I h
 refine wpAny_Call_Name_kw (cX I hg hm ?_ hdb)
 refine PySem.W.callWith_K (h₀:=X.base) I.ok.mod.kin hk (thn (ha pos pins s σ H _ I h) fun us s1 ⟨vs,H1,I1,r,q⟩=>⟨I1.kIn,?_⟩) he hpl
 exact nY F hr hb hd hx I1 r q
end
section
variable {X:Cx} {CX:CXT} {k:Nat} {f C:Addr} {fd:FuncData} {ps ks:List Str} {sp:Sp} {E:XK} {x m:Str} {p pos apos kpos:Pos} {e o:Expr} {es:List Expr} {kws:List Keyword} {te ta:TE} {t tk:TA} {nm:Option Str}
variable {g:List Value→List Value→List Value} {gV:List V→List V→List V}
end
structure aN (N P:List Str) (sc:Scope):Prop where
 kind:sc.kind= .function
 co:sc.isCoroutine=false
 gen:sc.isGenerator=false
 nd:N.Nodup
 pre:N.take P.length=P
 par:∀x∈P,sc.names.lookup x=some .local∨sc.names.lookup x=some .cell
 nofree:∀y∈sc.names,y.2≠ .free
theorem gO {kindOf:Str→Option NameKind} {x:Str}:∀ {binds:List (Str×Value)} {m:Str→Option Value},(∀v,(x,v)∉binds)→bindL kindOf binds m x=m x
 | [],_,_=>rfl
 |(n,v)::r,m,h=>by
  unfold bindL
  rw [gO fun w hw=>h w (uX _ hw)]
  split
  · have:x≠n:=by rintro rfl;exact h v v7
    simp [this]
  · rfl
theorem gQ {kindOf:Str→Option NameKind} {x:Str}:∀ {binds:List (Str×Value)} {m:Str→Option Value},(∀v,(x,v)∉binds)→bindC kindOf binds m x=m x
 | [],_,_=>rfl
 |(n,v)::r,m,h=>by
  unfold bindC
  rw [gQ fun w hw=>h w (uX _ hw)]
  split
  · rfl
  · have:x≠n:=by rintro rfl;exact h v v7
    simp [this]
theorem gP {kindOf:Str→Option NameKind} {x:Str} {v:Value}:∀ {P:List Str} {vs:List Value} {i:Nat} {m:Str→Option Value},P.Nodup→P[i]?=some x→vs[i]?=some v→kindOf x=some .local→
 bindL kindOf (P.zip vs) m x=some v
 | [],_,_,_,_,h,_,_=>by simp at h
 |_::_,[],_,_,_,_,h,_=>by simp at h
 |p::P,w::vs,0,m,nd,h1,h2,hk=>by
  simp at h1 h2;subst h1;subst h2
  show bindL kindOf ((p,w)::P.zip vs) m p=_
  unfold bindL
  rw [gO fun v hv=>(List.nodup_cons.mp nd).1 (List.of_mem_zip hv).1,if_pos hk]
  simp
 |p::P,w::vs,i+1,m,nd,h1,h2,hk=>by
  show bindL kindOf ((p,w)::P.zip vs) m x=_
  unfold bindL
  exact gP (i:=i) (List.nodup_cons.mp nd).2 (by simpa using h1) (by simpa using h2) hk
theorem gT {kindOf:Str→Option NameKind} {x:Str} {v:Value}:∀ {P:List Str} {vs:List Value} {i:Nat} {m:Str→Option Value},P.Nodup→P[i]?=some x→vs[i]?=some v→kindOf x≠some .local→
 bindC kindOf (P.zip vs) m x=some v
 | [],_,_,_,_,h,_,_=>by simp at h
 |_::_,[],_,_,_,_,h,_=>by simp at h
 |p::P,w::vs,0,m,nd,h1,h2,hk=>by
  simp at h1 h2;subst h1;subst h2
  show bindC kindOf ((p,w)::P.zip vs) m p=_
  unfold bindC
  rw [gQ fun v hv=>(List.nodup_cons.mp nd).1 (List.of_mem_zip hv).1,if_neg hk]
  simp
 |p::P,w::vs,i+1,m,nd,h1,h2,hk=>by
  show bindC kindOf ((p,w)::P.zip vs) m x=_
  unfold bindC
  exact gT (i:=i) (List.nodup_cons.mp nd).2 (by simpa using h1) (by simpa using h2) hk
noncomputable def dk (N:List Str) (vs:List V):St:=vs.map some++List.replicate (N.length - vs.length) none
noncomputable def cxOf (CX:CXT) (P:Program) (w:World) (K:PySem.W.Frag) (mg:Str→Option Value) (base:Heap) (N:List Str) (qual:Str) (scope:Scope) (f:Addr) (cd:Value) (A:Around) (outer:List Env) (s:Shared) (H:Hp) (E:XK):Cx where
 prog:=P
 w:=w
 K:=K
 mg:=mg
 base:=base
 A:=A.deeper (envOfC qual scope s.heap.objs.size f cd)
 N:=N
 s₀:=s
 H₀:=H
 env:=envOfC qual scope s.heap.objs.size f cd
 outer:=outer
 stack:=envOfC qual scope s.heap.objs.size f cd::outer
 ex:= []
 calm:=true
 fn:=fun _=>true
 pn:= []
 xe:=fun e s'=>wpAny (model P w) (A.deeper (envOfC qual scope s.heap.objs.size f cd)) (leaving (envOfC qual scope s.heap.objs.size f cd) e) (fun _ s''=>CX outer H s E e s'') (fun e' s''=>CX outer H s E e' s'') s'
theorem ja {sc:Scope} {n:Nat} {x:Str} (h:sc.names.lookup x=some .cell):∃c,(cellsFrom n sc.names []).lookup x=some c:=by
 have q:=PySem.W.cellsFrom_some sc.names n [] (.inl h)
 exact Option.isSome_iff_exists.mp q
theorem mh {CX:CXT} {P:Program} {w:World} {K:PySem.W.Frag} {mg:Str→Option Value} {base:Heap} {N ps:List Str} {qual:Str} {scope:Scope} {f:Addr} {cd:Value} {A:Around} {outer:List Env} {s s1:Shared} {H:Hp} {E:XK} {us:List Value} {vs:List V}
 (S:aN N ps scope) (hd:A.handled=none) (e0:Env0 P w K mg base A outer s H) (hl:vs.length=ps.length) (r:Vals vs us)
 (x:InCallC s s.heap.objs.size (bindL (envOfC qual scope s.heap.objs.size f cd).kindOf (ps.zip us) fun _=>none) (cellsFrom (s.heap.objs.size+1) scope.names []) (bindC (envOfC qual scope s.heap.objs.size f cd).kindOf (ps.zip us) fun _=>none) s1):
 Inv (cxOf CX P w K mg base N qual scope f cd A outer s H E) [] (dk N vs) H s1:=by
 have hpl:ps.length≤N.length:=by have:=congrArg List.length S.pre;rw [vx] at this;omega
 obtain ⟨h1,tk,rfl,hk⟩:=x.done
 have noA:∀b:Addr,b∉(cxOf CX P w K mg base N qual scope f cd A outer s H E).ex:=fun b z=>absurd (show b∈([]:List Addr) from z) (by simp)
 refine ⟨⟨e0.mod,S.kind,rfl,rfl,uW _,fun y z c h1 h2=> ?_,fun y hy=> ?_,fun y c _ h=> ?_,fun _=>hd,Around.frames_deeper e0.frames, .inr ⟨rfl,rfl⟩,fun b z=>absurd z (noA b),e0.bs,e0.bsz,fun b _ _=>noA b,fun b z=>absurd z (noA b),e0.funs,e0.frf⟩,
  rfl,e0.bare,Un.kept hk,⟨_,x.toInCall.ns,fun i y v h1 h2 h3=> ?_⟩,fun y c h=>⟨_,x.cell y c h⟩,e0.hok.fresh (uW _),fun y c h=> ?_,fun p hp=>absurd (show p∈([]:List (Addr×Obj)) from hp) (by simp),e0.hok.kept hk,?_⟩
 · exact name_of_addr x.apart (PySem.mem_of_lookup h1) (PySem.mem_of_lookup h2)
 · have hy:scope.names.lookup y=some .cell∨scope.names.lookup y=some .free:=hy
   rcases hy with hy|hy
   · exact ja hy
   · exact absurd rfl (S.nofree _ (PySem.mem_of_lookup hy))
 · exact Nat.le_of_lt (x.above y c (PySem.mem_of_lookup h))
 · have hi:i < vs.length:=by
    unfold dk at h2
    by_cases hi:i < vs.length
    · exact hi
    · rw [List.getElem?_append_right (by simpa using hi)] at h2
      rw [List.getElem?_replicate] at h2
      split at h2<;>cases h2
   have ha:vs[i]?=some v:=by
    unfold dk at h2
    rw [List.getElem?_append_left (by simpa using hi),vn] at h2
    cases e:vs[i]? with
    |none=>rw [e] at h2;cases h2
    |some a=>rw [e] at h2;cases h2;rfl
   obtain ⟨u,hu,rv⟩:=r.get ha
   have hp:ps[i]?=some y:=by
    rw [←S.pre,List.getElem?_take_of_lt (by omega)];exact h1
   have ndP:ps.Nodup:=by rw [←S.pre];exact S.nd.sublist (List.take_sublist _ _)
   refine ⟨u,rv,?_⟩
   rcases S.par y (vi hp) with k|k
   · exact .inl ⟨k,gP ndP hp hu k⟩
   · obtain ⟨c,e⟩:=ja (n:=s.heap.objs.size+1) k
     refine .inr ⟨.inl k,c,e,?_⟩
     have q:=x.cell y c e
     rw [gT ndP hp hu (by show scope.names.lookup y≠_;rw [k];decide)] at q
     exact q
 · exact e0.hok.fresh (Nat.le_of_lt (x.above y c (PySem.mem_of_lookup h)))
 · unfold dk
   show _=N.length
   rw [vc,uT,vW]
   omega
theorem rT {CX:CXT} {P:Program} {w:World} {K:PySem.W.Frag} {mg:Str→Option Value} {base:Heap} {k:Nat} {f:Addr} {name qual:Str} {params:Arguments} {body:List Stmt} {scope:Scope} {dV kV doc pm cdv ct oc:Value} {an od:Option Addr}
 {osl:Array (Option Value)} {N ps:List Str} {sp:Sp} (lk:K.lookup f=some ⟨oc,od, .func (PySem.W.fnOf name qual params body scope dV kV doc pm an cdv ct),osl⟩) (hcd:PySem.W.codeIn K cdv qual=true) (S:aN N ps scope)
 (len:∀vs H Q E,sp vs H Q E→vs.length=ps.length)
 (hbody:∀(A:Around) (outer:List Env) (s:Shared) (H:Hp) (vs:List V) (Q:VK) (E:XK),Room k (A.deeper (envOfC qual scope s.heap.objs.size f cdv))→sp vs H Q E→
  ∃t,PSs (cxOf CX P w K mg base N qual scope f cdv A outer s H E) body t∧t {nx:=fun _ H'=>Q .non H',rt:=Q} (dk N vs) H):
 FnOk P w K mg base CX (k+1) f (PySem.W.fnOf name qual params body scope dV kV doc pm an cdv ct) ps sp:=by
 refine ⟨len,fun A outer s H args us vs Q E hr e0 hb r hsp=> ?_⟩
 have hl:=len _ _ _ _ hsp
 have KX:K.In s.heap:=e0.mod.kin.keeps fun b o e=>(e0.bs b o e).1
 have lim:s.heap.NoLimit:=e0.mod.nolimit.keeps fun b o e=>(e0.bs b o e).1
 have hkind:∀y∈ps.zip us,scope.names.lookup y.1=some .local∨(scope.names.lookup y.1=some .cell∧((cellsFrom (s.heap.objs.size+1) scope.names []).lookup y.1).isSome=true):=fun ⟨n,v⟩ hy=>by
  rcases S.par n (List.of_mem_zip hy).1 with q|q
  · exact .inl q
  · exact .inr ⟨q,PySem.W.cellsFrom_some _ _ _ (.inl q)⟩
 refine codeAny_call_function hr.depth (KX _ _ lk) rfl S.co S.gen rfl (PySem.W.codeRec_of KX hcd) (hb _ _ _ _ ?_)
 refine wpAny_newFunctionEnv_cells S.kind hkind fun env he s1 x=> ?_
 subst he
 refine ⟨lim.keeps x.toInCall.keep,codeAny_func ?_⟩
 obtain ⟨t,ht,hq⟩:=hbody A outer s H vs Q E (hr.deeper _) hsp
 have I:Inv (cxOf CX P w K mg base N qual scope f cdv A outer s H E) [] (dk N vs) H s1:=mh S hr.hd e0 hl r x
 refine wpAny_mono (ht [] s1 (dk N vs) H _ I hq) (fun fl s' hs=> ?_) fun e s' hs=>hs
 have fin:∀ {σ':St} {H':Hp} {v:V} {u:Value},Inv (cxOf CX P w K mg base N qual scope f cdv A outer s H E) [] σ' H' s'→RelV v u→Q v H'→CE outer P w H s Q u s':=
  fun {σ' H' v u} J rv q=>⟨v,H',J.os,J.bare,J.base,J.hok,rv,q⟩
 cases fl with
 |ret u=>
  obtain ⟨v,σ',H',J,rv,q⟩:=hs
  exact fin J rv q
 |next=>
  obtain ⟨σ',H',J,q⟩:=hs
  exact fin (v:=V.non) (u:=Value.none) J rfl q
 |brk=>
  obtain ⟨_,_,_,q⟩:=hs
  exact False.elim q
 |cont=>
  obtain ⟨_,_,_,q⟩:=hs
  exact False.elim q
open PySem PySem.Spec PyProof.Rows
section
variable {X:Cx} {x:Str} {p pos:Pos} {e:Expr} {es:List Expr} {t:TA} {id T:String} {r:List V→Hp→VK→Prop}
def tCB (r:List V→Hp→VK→Prop) (t:TA):TE:=fun σ H Q=>t σ H fun vs H1=>r vs H1 Q
theorem aq (hc:cV X (.builtin id) r) (hg:Gl X x) (hm:X.mg x=none) (hv:bootBuiltins x=some (.builtin id)) (ha:PA X (e::es) t) (hn:x≠"__name__":=by decide) (hdb:(x==("__debug__":Str))=false:=by decide)
 (he:starEach (e::es) X.env=(false,eval e X.env)::starEach es X.env:=by rfl) (hpl:(backTo pos (starEach es X.env)).any (·.1)=false:=by rfl):PE X (.Call (.Name x p) (e::es) [] pos) (tCB r t):=by
 intro pins s σ H Q I h
 refine wpAny_Call_Name_kw (cT I hg hm hv ?_ hn hdb)
 exact PyProof.Rows.callWith_builtin1 (thn (ha pos pins s σ H _ I h) fun us s1 ⟨vs,H1,I1,r1,q1⟩=>hc pins s1 σ H1 vs us Q I1 r1 q1) he hpl
theorem aJ (hc:cV X (.type T) r) (hg:Gl X x) (hm:X.mg x=none) (hv:bootBuiltins x=some (.type T)) (ha:PA X (e::es) t) (hn:x≠"__name__":=by decide) (hdb:(x==("__debug__":Str))=false:=by decide)
 (he:starEach (e::es) X.env=(false,eval e X.env)::starEach es X.env:=by rfl) (hpl:(backTo pos (starEach es X.env)).any (·.1)=false:=by rfl):PE X (.Call (.Name x p) (e::es) [] pos) (tCB r t):=by
 intro pins s σ H Q I h
 refine wpAny_Call_Name_kw (cT I hg hm hv ?_ hn hdb)
 exact PyProof.Rows.callWith_type1 (thn (ha pos pins s σ H _ I h) fun us s1 ⟨vs,H1,I1,r1,q1⟩=>hc pins s1 σ H1 vs us Q I1 r1 q1) he hpl
end
end L2
namespace HT
open PySem PyProof.Rows
section
open PySem.SeqAt
open PySem.AutoSeq1 (wpAny_loadPart')
open PySem.MeetsSeq PySem.MeetsSeq2 PySem.MeetsSeq3
end
section
variable {prog:Program} {w:World} {A:Around} {E:Value→Shared→Prop} {s:Shared}
noncomputable def sIx (n d:Nat):Option Int→Nat
 |none=>d
 |some v=>if v < 0 then (v+(n:Int)).toNat else min v.toNat n
end
end HT
namespace L2
open PySem PySem.Spec PyProof.Rows
abbrev TO:=St→Hp→(Option Int→Hp→Prop)→Prop
def PO (X:Cx) (e:Option Expr) (t:TO):Prop:=
 ∀(pins:List (Addr×Obj)) (s:Shared) (σ:St) (H:Hp) (Q:Option Int→Hp→Prop),Inv X pins σ H s→t σ H Q→
  wpAny (model X.prog X.w) X.A (evalPart e X.env) (fun u s'=>∃o H',Inv X pins σ H' s'∧IsPart u o∧Q o H') X.xe s
def pW:TO:=fun _ H Q=>Q none H
def ub (t:TE):TO:=fun σ H Q=>t σ H fun x H1=>∃i,x= .int i∧Q (some i) H1
section
variable {X:Cx} {e:Expr} {te:TE} {lo hi:Option Expr} {tl th:TO} {pos p2:Pos}
theorem bw:PO X none pW:=by
 intro pins s σ H Q I h
 rw [evalPart_none]
 exact wpAny_pure ⟨none,H,I, .none,h⟩
theorem be (h:PE X e te):PO X (some e) (ub te):=by
 intro pins s σ H Q I hw
 rw [evalPart_some]
 refine thn (h pins s σ H _ I hw) fun u s1 ⟨x,H1,I1,r1,q1⟩=> ?_
 obtain ⟨i,rfl,q⟩:=q1
 obtain ⟨t,rfl⟩:=r1
 exact ⟨some i,H1,I1, .int i t,q⟩
def SlR (X:Cx) (r:V→Option Int→Option Int→Hp→VK→Prop):Prop:=
 ∀(pins:List (Addr×Obj)) (s:Shared) (σ:St) (H:Hp) (x:V) (v vl vu:Value) (lo hi:Option Int) (sl:Addr) (Q:VK),Inv X pins σ H s→RelV x v→s.heap.IsSliceOf sl vl vu .none→IsPart vl lo→IsPart vu hi→r x lo hi H Q→
  ∃T id,typeLookup (.type T) "__getitem__"=pure (some (.builtin id))∧s.TypeIs v T∧wpAny (model X.prog X.w) X.A (getItem v (.ref sl)) (EP X pins σ Q) X.xe s
def tSl (r:V→Option Int→Option Int→Hp→VK→Prop) (te:TE) (tl th:TO):TE:=fun σ H Q=>te σ H fun x H1=>tl σ H1 fun l H2=>th σ H2 fun u H3=>r x l u H3 Q
theorem bc {r:V→Option Int→Option Int→Hp→VK→Prop} (hr:SlR X r) (he:PE X e te) (hl:PO X lo tl) (hu:PO X hi th):PE X (.Subscript e (.Slice lo hi none p2) pos) (tSl r te tl th):=by
 intro pins s σ H Q I h
 refine Subscript_ (thn (he pins s σ H _ I h) fun v s1 ⟨x,H1,I1,r1,q1⟩=> ?_)
 refine wpAny_Slice (thn (hl pins s1 σ H1 _ I1 q1) fun vl s2 ⟨l,H2,I2,pl,q2⟩=>thn (hu pins s2 σ H2 _ I2 q2) fun vu s3 ⟨u,H3,I3,pu,q3⟩=> ?_)
 rw [evalPart_none]
 refine wpAny_pure ?_
 have I4:Inv X pins σ H3 {s3 with heap:=s3.heap.push {cls:= .type "slice",data:= .fields #[vl,vu, .none]}}:=I3.kept (t':=s3.toks) fun b ob q=>Heap.get?_push_of_some _ q
 obtain ⟨T,id,hT,ht,hg⟩:=hr pins {s3 with heap:=s3.heap.push {cls:= .type "slice",data:= .fields #[vl,vu, .none]}} σ H3 x v vl vu l u s3.heap.objs.size Q I4 r1 (Heap.IsSliceOf.new ..) pl pu q3
 show wpAny (model X.prog X.w) X.A (subscriptTail e (.Slice lo hi none p2) v (.ref s3.heap.objs.size)) (EP X pins σ Q) X.xe {s3 with heap:=s3.heap.push {cls:= .type "slice",data:= .fields #[vl,vu, .none]}}
 exact tail_any (ops:= [.ref s3.heap.objs.size,v]) ht hT hg (by with_unfolding_all rfl)
noncomputable def cutV (xs:List V) (lo hi:Option Int):List V:=(xs.drop (HT.sIx xs.length 0 lo)).take (HT.sIx xs.length xs.length hi - HT.sIx xs.length 0 lo)
theorem j7 (xs:List V) (lo hi:Option Int):(cutV xs lo hi).length≤xs.length:=by
 unfold cutV
 rw [vx,vV]
 omega
end
open PySem PySem.Spec PyProof.Rows
noncomputable def ixN (n:Nat) (i:Int):Option Nat:=if 0≤i then (if i < n then some i.toNat else none) else if -(n:Int)≤i then some (i+n).toNat else none
noncomputable def atI {α:Type} (xs:List α) (i:Int):Option α:=(ixN xs.length i).bind fun j=>xs[j]?
theorem ii {n:Nat} {i:Int} {j:Nat} (h:ixN n i=some j):seqIndex? i n=some j∧j < n∧ -(n:Int)≤i∧i < n:=by
 unfold ixN at h
 by_cases h0:0≤i
 · rw [if_pos h0] at h
   by_cases h1:i < n
   · rw [if_pos h1] at h
     have e:i.toNat=j:=vk h
     exact ⟨by rw [seqIndex_of h0 h1,e],by omega,by omega,h1⟩
   · rw [if_neg h1] at h;cases h
 · rw [if_neg h0] at h
   by_cases h1:-(n:Int)≤i
   · rw [if_pos h1] at h
     have e:(i+n).toNat=j:=vk h
     exact ⟨by rw [seqIndex_neg (by omega) h1,e],by omega,h1,by omega⟩
   · rw [if_neg h1] at h;cases h
theorem ir {α:Type} {xs:List α} {i:Int} {v:α} (h:atI xs i=some v):∃j,seqIndex? i xs.length=some j∧xs[j]?=some v∧j < xs.length∧ -(xs.length:Int)≤i∧i < xs.length:=by
 unfold atI at h
 cases e:ixN xs.length i with
 |none=>rw [e] at h;cases h
 |some j=>
  rw [e] at h
  obtain ⟨h1,h2,h3,h4⟩:=ii e
  exact ⟨j,h1,h,h2,h3,h4⟩
theorem aR {α:Type} {xs:List α} {j:Nat} {v:α} (h:xs[j]?=some v):atI xs (j:Int)=some v:=by
 have hj:j < xs.length:=(vg.mp h).1
 have e:ixN xs.length (j:Int)=some j:=by
  unfold ixN
  rw [if_pos (by omega),if_pos (by omega)];simp
 unfold atI;rw [e];exact h
def rp (b:Expr):Prop:=∀o i,subscripted b false o i=operate [o,i] (getItem o i)
def IxR (X:Cx) (r:R2):Prop:=
 ∀(value slice:Expr) (pins:List (Addr×Obj)) (s:Shared) (σ:St) (H:Hp) (x y:V) (v u:Value) (Q:VK),Inv X pins σ H s→RelV x v→RelV y u→r x y H Q→
  subscripted slice false v u=operate [v,u] (getItem v u)→wpAny (model X.prog X.w) X.A (subscriptTail value slice v u) (EP X pins σ Q) X.xe s
def MtR (X:Cx) (id:String) (r:V→List V→Hp→VK→Prop):Prop:=
 ∀(pins:List (Addr×Obj)) (s:Shared) (σ:St) (H:Hp) (x:V) (xs:List V) (v:Value) (us:List Value) (Q:VK),Inv X pins σ H s→RelV x v→Vals xs us→r x xs H Q→
  wpAny (model X.prog X.w) X.A (call (.builtin id) (v::us)) (EP X pins σ Q) X.xe s
section
variable {X:Cx} {a b:Expr} {ta tb:TE} {pos:Pos}
theorem aE {r:R2} (hr:IxR X r) (ha:PE X a ta) (hb:PE X b tb) (hs:rp b):PE X (.Subscript a b pos) (tOp r ta tb):=by
 intro pins s σ H Q I h
 exact Subscript_ (binT ha hb I h fun v u s2 x y H2 I2 rx ry q=>hr a b pins s2 σ H2 x y v u Q I2 rx ry q (hs _ _))
def rIxL (K:PySem.W.Frag):R2:=fun x y H Q=>∃p xs i v,x= .ref p∧y= .int i∧SqL K H p xs∧atI xs i=some v∧Q v H
def rIxT (K:PySem.W.Frag):R2:=fun x y H Q=>∃p xs i v,x= .ref p∧y= .int i∧SqT K H p xs∧atI xs i=some v∧Q v H
def rIxS:R2:=fun x y H Q=>∃z i c,x= .str z∧y= .int i∧z.length≤sizeLine∧atI z.cps.toList i=some c∧Q (.str ⟨#[c]⟩) H
theorem av:IxR X (rIxL X.K):=by
 intro value slice pins s σ H x y v u Q I rx ry h hs
 obtain ⟨p,xs,i,z,rfl,rfl,hq,he,q⟩:=h
 cases rx
 obtain ⟨t,rfl⟩:=ry
 obtain ⟨its,r,pl,hz⟩:=I.list hq
 obtain ⟨j,h1,h2,h3,h4,h5⟩:=ir he
 obtain ⟨w,ew,rw'⟩:=r.get h2
 have hl:=r.length
 have hn:=cS
 have fin:EP X pins σ Q w s:=⟨z,H,I,rw',q⟩
 by_cases h0:0≤i
 · have hj:i.toNat=j:=by
    rw [seqIndex_of h0 h5] at h1
    exact vk h1
   exact item_listR pl.isList h0 (by omega) (by rw [hj];simpa using ew) fin hs
 · have hj:(i+(its.toArray.size:Int)).toNat=j:=by
    rw [seqIndex_neg (by omega) h4] at h1
    rw [uY,←hl]
    exact vk h1
   exact subscriptTail_builtinR (x:=w) pl.isList.typeIs slot_list_getitem.lookup
    (wpAny_getItem_list_neg (Q:=fun r s'=>r=w∧EP X pins σ Q r s') pl.isList (by omega) (by rw [uY]<;>omega) (by omega) (by rw [hj];simpa using ew) ⟨rfl,fin⟩) hs
theorem c5:IxR X (rIxT X.K):=by
 intro value slice pins s σ H x y v u Q I rx ry h hs
 obtain ⟨p,xs,i,z,rfl,rfl,hq,he,q⟩:=h
 cases rx
 obtain ⟨t,rfl⟩:=ry
 obtain ⟨its,r,pl,hz⟩:=I.tuple hq
 obtain ⟨j,h1,h2,h3,h4,h5⟩:=ir he
 obtain ⟨w,ew,rw'⟩:=r.get h2
 have hl:=r.length
 have hn:=cS
 have fin:EP X pins σ Q w s:=⟨z,H,I,rw',q⟩
 exact subscriptTail_builtinR (x:=w) pl.typeIs slot_tuple_getitem.lookup
  (getItem_tuple (j:=j) (Q:=fun r s'=>r=w∧EP X pins σ Q r s') pl (by omega) (by omega) (by rw [uY,←hl];exact h1) (by simpa using ew) ⟨rfl,fin⟩) hs
theorem jC:IxR X rIxS:=by
 intro value slice pins s σ H x y v u Q I rx ry h hs
 obtain ⟨z,i,c,rfl,rfl,hz,he,q⟩:=h
 obtain ⟨t,rfl⟩:=rx
 obtain ⟨t',rfl⟩:=ry
 obtain ⟨j,h1,h2,h3,h4,h5⟩:=ir he
 have hl:z.cps.toList.length=z.length:=by simp [Str.length]
 rw [hl] at h1 h4 h5
 have hn:=cS
 exact tail_any (typeIs_str s z t) slot_str_getitem.lookup (getItem_str (c:=c) (by
  have e1:decide (i < -(2^63:Int))=false:=decide_eq_false (by omega)
  have e2:decide (i≥2^63)=false:=decide_eq_false (by omega)
  rw [e1,e2,Bool.or_false]) (by rw [h1];simpa using h2) ⟨.str ⟨#[c]⟩,H,I.tok _,⟨_,rfl⟩,q⟩) hs
theorem jy (its:List Value) (n j:Nat) (u:Value):Obj.mapSeq (·.setIfInBounds j u) {cls:= .type "list",data:= .seq its.toArray n} = {cls:= .type "list",data:= .seq (its.set j u).toArray n}:=by
 simp [Obj.mapSeq]
theorem Inv.lst {pins:List (Addr×Obj)} {σ:St} {H:Hp} {s:Shared} {p:Addr} {xs:List V} (I:Inv X pins σ H s) (h:H p=some (.lst xs)):
 ∃(its:List Value) (n:Nat),Vals xs its∧s.heap.get? p=some {cls:= .type "list",data:= .seq its.toArray n}∧xs.length≤sizeLine:=by
 obtain ⟨z,its,n,r,e⟩:=I.hok p _ h
 exact ⟨its,n,r,e,z⟩
theorem Inv.lstUpd {pins:List (Addr×Obj)} {σ:St} {H:Hp} {s:Shared} {p:Addr} {xs ys:List V} {its its':List Value} {n n':Nat} {f:Obj→Obj} (I:Inv X pins σ H s) (h:H p=some (.lst xs))
 (ho:s.heap.get? p=some {cls:= .type "list",data:= .seq its.toArray n}) (hf:f {cls:= .type "list",data:= .seq its.toArray n} = {cls:= .type "list",data:= .seq its'.toArray n'}) (r:Vals ys its') (hz:ys.length≤sizeLine) (t:Nat):
 Inv X pins σ (upd H p (.lst ys)) {s with heap:=s.heap.update p f,toks:=t}:=by
 have e:(s.heap.update p f).get? p=some {cls:= .type "list",data:= .seq its'.toArray n'}:=by
  rw [Heap.get?_update_self f ho (by rw [hf]<;>rfl),hf]
 refine I.write (x:=p) (e:=p) (by rw [h];trivial) (.inl rfl) (fun b u hb q=>(Heap.get?_update_other _ _ (Ne.symm hb)).trans q) ⟨_,e⟩ ?_
 exact ⟨hz,its',n',r,e⟩
def ul:V→V→V→Hp→(Hp→Prop)→Prop:=fun o i v H Q=>∃p xs k j,o= .ref p∧i= .int k∧H p=some (.lst xs)∧ixN xs.length k=some j∧Q (upd H p (.lst (xs.set j v)))
theorem cM:PSet X ul:=by
 intro pins s σ H o i v ov iv u Q I ro ri rv h
 obtain ⟨p,xs,k,j,rfl,rfl,hp,hj,q⟩:=h
 cases ro
 obtain ⟨t,rfl⟩:=ri
 obtain ⟨its,n,r,ho,hz⟩:=I.lst hp
 obtain ⟨h1,h2,h3,h4⟩:=ii hj
 have hl:=r.length
 have hn:=cS
 have I':Inv X pins σ (upd H p (.lst (xs.set j v))) {s with heap:=s.heap.update p (Obj.mapSeq (·.setIfInBounds j u))}:=
  I.lstUpd hp ho (jy its n j u) (r.set rv j) (by rw [List.length_set];exact hz) s.toks
 by_cases h0:0≤k
 · have hk:k.toNat=j:=by
    rw [seqIndex_of h0 h4] at h1
    exact vk h1
   exact PySem.W.ki_setAt ho h0 (by omega) (by rw [uY,←hl];exact h4) (by rw [hk];exact ⟨_,I',q⟩)
 · have hk:(k+(its.toArray.size:Int)).toNat=j:=by
    rw [seqIndex_neg (by omega) h3] at h1
    rw [uY,←hl]
    exact vk h1
   exact PySem.W.ki_setBack ho (by omega) (by rw [uY,←hl];exact h3) (by omega) (by rw [hk];exact ⟨_,I',q⟩)
theorem hU (lo hi:Option Int) (n:Nat):(sliceBounds lo hi none n).1=((HT.sIx n 0 lo:Nat):Int)∧(sliceBounds lo hi none n).2.1=((HT.sIx n n hi:Nat):Int)∧(sliceBounds lo hi none n).2.2=1:=by
 refine ⟨?_,?_,rfl⟩
 · cases lo with
   |none=>simp [sliceBounds,HT.sIx]
   |some i=>
    simp only [sliceBounds,HT.sIx,Option.getD_none,show (1:Int) > 0 by decide,if_true]
    by_cases h:i < 0
    · simp only [h,if_true]<;>omega
    · simp only [h,if_false]<;>omega
 · cases hi with
   |none=>simp [sliceBounds,HT.sIx]
   |some i=>
    simp only [sliceBounds,HT.sIx,Option.getD_none,show (1:Int) > 0 by decide,if_true]
    by_cases h:i < 0
    · simp only [h,if_true]<;>omega
    · simp only [h,if_false]<;>omega
theorem fX (its:List Value) (lo hi:Option Int):slicePick its.toArray lo hi none=((its.drop (HT.sIx its.length 0 lo)).take (HT.sIx its.length its.length hi - HT.sIx its.length 0 lo)).toArray:=by
 obtain ⟨h1,h2,h3⟩:=hU lo hi its.toArray.size
 unfold slicePick
 rw [h1,h2,h3]
 simp only [sliceRange_one,pick_run,uY]<;>rfl
def rSlL (K:PySem.W.Frag):V→Option Int→Option Int→Hp→VK→Prop:=fun x lo hi H Q=>∃a xs,x= .ref a∧SqL K H a xs∧∀p,H p=none→Q (.ref p) (upd H p (.lst (cutV xs lo hi)))
theorem hW:SlR X (rSlL X.K):=by
 intro pins s σ H x v vl vu lo hi sl Q I rx hs pl pu h
 obtain ⟨a,xs,rfl,hx,q⟩:=h
 cases rx
 obtain ⟨its,r,ht,hz⟩:=I.list hx
 have hlen:=r.length
 refine ⟨"list",_,slot_list_getitem.lookup,ht.isList.typeIs,?_⟩
 refine wpAny_getItem_list_slice ht.isList hs pl pu .none (by simp) ?_ (by rw [uY]<;>omega)
 rw [fX,←hlen]
 refine ⟨.ref s.heap.objs.size,_,I.laid (t':=s.toks) (o:= .lst (cutV xs lo hi)) (fun b ob q=>Heap.get?_push_of_some _ q) (uW _) ?_,rfl,q _ (I.hok.fresh (uW _))⟩
 exact ⟨vh (j7 xs lo hi) hz,_,0,(r.drop (HT.sIx xs.length 0 lo)).take (HT.sIx xs.length xs.length hi - HT.sIx xs.length 0 lo),Heap.get?_push_size _ rfl⟩
theorem am:cV X (.builtin "len") (fun xs H Q=>∃p ys,xs= [.ref p]∧(SqL X.K H p ys∨SqT X.K H p ys)∧Q (.int ys.length) H):=by
 intro pins s σ H xs us Q I r h
 obtain ⟨p,ys,rfl,hq,q⟩:=h
 obtain ⟨u,rfl,rx⟩:=eP r
 cases rx
 have hn:=cS
 rcases hq with hq|hq
 · obtain ⟨its,r',pl,hz⟩:=I.list hq
   have hlen:=r'.length
   exact Calls.call_len_list pl.isList (by simp only [uY]<;>omega) ⟨.int ys.length,H,I.tok _,⟨s.toks+1,by rw [uY,hlen]⟩,q⟩
 · obtain ⟨its,r',pl,hz⟩:=I.tuple hq
   have hlen:=r'.length
   exact len_tuple pl (by simp only [uY]<;>omega) ⟨.int ys.length,H,I.tok _,⟨s.toks+1,by rw [uY,hlen]⟩,q⟩
theorem bz:cV X (.builtin "len") (fun xs H Q=>∃z,xs= [.str z]∧z.length≤sizeLine∧Q (.int z.length) H):=by
 intro pins s σ H xs us Q I r h
 obtain ⟨z,rfl,hz,q⟩:=h
 obtain ⟨u,rfl,t,rfl⟩:=eP r
 have hn:=cS
 exact len_str (by omega) ⟨.int z.length,H,I.tok _,⟨_,rfl⟩,q⟩
theorem bx:cV X (.type "list") (fun xs H Q=>∃p ys,xs= [.ref p]∧(SqL X.K H p ys∨SqT X.K H p ys)∧∀l,H l=none→Q (.ref l) (upd H l (.lst ys))):=by
 intro pins s σ H xs us Q I r h
 obtain ⟨p,ys,rfl,hq,q⟩:=h
 obtain ⟨u,rfl,rx⟩:=eP r
 cases rx
 have fin:∀(its:List Value),Vals ys its→ys.length≤sizeLine→∀(h':Heap) (c':Nat),(∀b o',s.heap.get? b=some o'→h'.get? b=some o')→
  h'.get? s.heap.objs.size=some {cls:= .type "list",dict:=none,data:= .seq its.toArray c',slots:= #[]}→EP X pins σ Q (.ref s.heap.objs.size) {s with heap:=h'}:=fun its r' hz h' c' kp e=>
  ⟨.ref s.heap.objs.size,_,I.laid (t':=s.toks) kp (uW _) (show ObjOk X.prog X.w _ h' _ (.lst ys) from ⟨hz,its,c',r',e⟩),rfl,q _ (I.hok.fresh (uW _))⟩
 rcases hq with hq|hq
 · obtain ⟨its,r',pl,hz⟩:=I.list hq
   have hlen:=r'.length
   obtain ⟨o,ho,hc,n,hd⟩:=pl.isList
   exact call_list_seq p (.inl rfl) ho hc hd (fun h' c' kp e=>fin its r' hz h' c' kp e) (by simp only [uY]<;>omega)
 · obtain ⟨its,r',pl,hz⟩:=I.tuple hq
   have hlen:=r'.length
   obtain ⟨o,ho,hc,n,hd⟩:=pl
   exact call_list_seq p (.inr rfl) ho hc hd (fun h' c' kp e=>fin its r' hz h' c' kp e) (by simp only [uY]<;>omega)
theorem d7:cV X (.type "tuple") (fun xs H Q=>∃p ys,xs= [.ref p]∧((SqL X.K H p ys∧∀l,H l=none→Q (.ref l) (upd H l (.tup ys)))∨(SqT X.K H p ys∧Q (.ref p) H))):=by
 intro pins s σ H xs us Q I r h
 obtain ⟨p,ys,rfl,h⟩:=h
 obtain ⟨u,rfl,rx⟩:=eP r
 cases rx
 rcases h with ⟨hq,q⟩|⟨hq,q⟩
 · obtain ⟨its,r',pl,hz⟩:=I.list hq
   have hlen:=r'.length
   refine call_tuple_list pl.isList (fun h' kp=> ?_) (by simp only [uY]<;>omega)
   have I1:Inv X pins σ H {s with heap:=h'}:=I.kept (t':=s.toks) kp
   have I2:Inv X pins σ (upd H h'.objs.size (.tup ys)) {s with heap:=h'.push {cls:= .type "tuple",data:= .seq its.toArray}}:=
    I1.laid (t':=s.toks) (fun b o e=>Heap.get?_push_of_some _ e) (uW _) (show ObjOk X.prog X.w _ _ _ (.tup ys) from ⟨hz,its,r',IsTup.new _ _⟩)
   exact ⟨.ref h'.objs.size,_,I2,rfl,q _ (I1.hok.fresh (uW _))⟩
 · obtain ⟨its,r',pl,hz⟩:=I.tuple hq
   exact call_tuple_same pl ⟨.ref p,H,I,rfl,q⟩
def tyV (K:PySem.W.Frag) (T:String) (x:V) (H:Hp):Prop:=match x with
 | .str _=>T= "str"
 | .int _=>T= "int"
 | .ref p=>(T= "list"∧∃xs,SqL K H p xs)∨(T= "tuple"∧∃o,K.lookup p=some o∧o.cls= .type "tuple"∧o.dict=none)∨
  (T= "dict"∧((∃kvs,H p=some (.dK kvs))∨∃kvs,H p=some (.dT kvs)))∨(T= "set"∧∃S n,H p=some (.set S n))
 |_=>False
theorem n5 {pins:List (Addr×Obj)} {σ:St} {H:Hp} {s:Shared} {T:String} {x:V} {v:Value} (I:Inv X pins σ H s) (r:RelV x v) (ty:tyV X.K T x H):
 s.TypeIs v T∧∀a,v= .ref a→∃ob,s.heap.get? a=some ob∧ob.dict=none:=by
 cases x with
 |str z=>
  obtain ⟨t,rfl⟩:=r
  cases (show T= "str" from ty)
  exact ⟨typeIs_str s z t,fun _ e=>nomatch e⟩
 |int i=>
  obtain ⟨t,rfl⟩:=r
  cases (show T= "int" from ty)
  exact ⟨typeIs_int s i t,fun _ e=>nomatch e⟩
 |ref p=>
  cases r
  rcases ty with ⟨rfl,xs,hq⟩|⟨rfl,o,hk,hc,hd⟩|⟨rfl,hk⟩|⟨rfl,S,n,hk⟩
  · obtain ⟨its,_,pl,_⟩:=I.list hq
    refine ⟨pl.isList.typeIs,fun a e=> ?_⟩
    cases e
    obtain ⟨o,n,e,c,hd,_⟩:=pl
    exact ⟨o,e,hd⟩
  · refine ⟨⟨o,I.kIn p o hk,hc⟩,fun a e=> ?_⟩
    cases e
    exact ⟨o,I.kIn _ o hk,hd⟩
  · have z:∃o,s.heap.get? p=some o∧o.ExactDict:=by
     rcases hk with ⟨kvs,hk⟩|⟨kvs,hk⟩
     · obtain ⟨_,_,_,_,o,_,_,e,ex,_⟩:=I.hok p _ hk
       exact ⟨o,e,ex⟩
     · obtain ⟨_,_,_,_,o,_,_,e,ex,_⟩:=I.hok p _ hk
       exact ⟨o,e,ex⟩
    obtain ⟨o,e,ex⟩:=z
    refine ⟨⟨o,e,ex.1⟩,fun a e2=> ?_⟩
    cases e2
    exact ⟨o,e,ex.2.1⟩
  · obtain ⟨o,_,_,_,e,ex,_⟩:=I.hok p _ hk
    refine ⟨⟨o,e,ex.1⟩,fun a e2=> ?_⟩
    cases e2
    exact ⟨o,e,ex.2.1⟩
 |_=>exact False.elim ty
def tBM0 (K:PySem.W.Frag) (T:String) (r:V→List V→Hp→VK→Prop) (to:TE):TE:=fun σ H Q=>to σ H fun x H1=>tyV K T x H1∧r x [] H1 Q
def tBM (K:PySem.W.Frag) (T:String) (r:V→List V→Hp→VK→Prop) (to:TE) (t:TA):TE:=fun σ H Q=>to σ H fun x H1=>tyV K T x H1∧t σ H1 fun xs H2=>r x xs H2 Q
variable {o e:Expr} {es:List Expr} {to:TE} {t:TA} {name:Str} {apos cpos:Pos} {T id:String} {r:V→List V→Hp→VK→Prop}
theorem fc (pa:PlainAttrs T) (slot:Slot T name id) (hty:typeOf (.builtin id)=pure (.type "method_descriptor")) (hm:MtR X id r) (ho:PE X o to)
 (hbase:attributeBase o name X.env (eval o X.env)=eval o X.env:=by rfl) (hline:(apos.endLine==cpos.line)=true:=by rfl):PE X (.Call (.Attribute o name apos) [] [] cpos) (tBM0 X.K T r to):=by
 intro pins s σ H Q I h
 refine wpAny_Call_method0_late hbase hline (thn (ho pins s σ H _ I h) fun v s1 ⟨x,H1,I1,r1,ty,q1⟩=> ?_)
 obtain ⟨h1,h2⟩:=n5 I1 r1 ty
 exact ⟨T,id,pa,slot,hty,h1,h2,Calls.callWith_builtin rfl (PySem.evalArgs_none (hm pins s1 σ H1 x [] v [] Q I1 r1 .nil q1))⟩
theorem bO (pa:PlainAttrs T) (slot:Slot T name id) (hty:typeOf (.builtin id)=pure (.type "method_descriptor")) (hm:MtR X id r) (ho:PE X o to) (ha:PA X (e::es) t)
 (hbase:attributeBase o name X.env (eval o X.env)=eval o X.env:=by rfl)
 (hfew:((backTo cpos (starEach (e::es) X.env)).all (fun x=> !x.1)&& (backToKw cpos (keywordEach [] X.env)).all (fun x=>x.1.isSome)
  &&decide ((e::es).length+([]:List Keyword).length+(if ([]:List Keyword).isEmpty then 0 else 1) < 30))=true:=by rfl)
 (hline:(apos.endLine==cpos.line)=true:=by rfl) (hs:starEach (e::es) X.env=(false,eval e X.env)::starEach es X.env:=by rfl) (hplain:(backTo cpos (starEach es X.env)).any (·.1)=false:=by rfl):
 PE X (.Call (.Attribute o name apos) (e::es) [] cpos) (tBM X.K T r to t):=by
 intro pins s σ H Q I h
 refine wpAny_Call_method_late hbase hfew hline rfl (thn (ho pins s σ H _ I h) fun v s1 ⟨x,H1,I1,r1,ty,q1⟩=> ?_)
 obtain ⟨h1,h2⟩:=n5 I1 r1 ty
 refine ⟨T,id,pa,slot,hty,h1,h2,?_⟩
 have hA:=ha cpos pins s1 σ H1 _ I1 q1
 rw [hs] at hA ⊢
 refine Calls.callWith_builtin (by show (false ||(backTo cpos (starEach es X.env)).any (·.1))=false;rw [hplain]<;>rfl) (Calls.evalArgs_plain ?_)
 exact thn hA fun us s2 ⟨vs,H2,I2,r2,q2⟩=>hm pins s2 σ H2 x vs v us Q I2 r1 r2 q2
end
open PySem PySem.Spec PyProof.Rows
def MtM (X:Cx) (id:String) (r:V→List V→Hp→VK→Prop):Prop:=
 ∀(pins:List (Addr×Obj)) (s:Shared) (σ:St) (H:Hp) (x:V) (xs:List V) (v:Value) (us:List Value) (Q:VK),Inv X pins σ H s→RelV x v→Vals xs us→r x xs H Q→
  wpAny (model X.prog X.w) X.A (call (.builtin id) (v::us)) (EP X pins σ Q) X.xe s
theorem Vals.one:∀ {x:V} {us:List Value},Vals [x] us→∃u,us= [u]∧RelV x u
 |_,_, .cons r .nil=>⟨_,rfl,r⟩
theorem Vals.two {x y:V} {us:List Value} (h:Vals [x,y] us):∃u v,us= [u,v]∧RelV x u∧RelV y v:=by
 cases h with
 |cons r t=>cases t with
  |cons q t'=>cases t';exact ⟨_,_,rfl,r,q⟩
theorem Vals.zero:∀ {us:List Value},Vals [] us→us= []
 |_, .nil=>rfl
theorem Vals.eraseIdx:∀ {xs:List V} {us:List Value} (i:Nat),Vals xs us→Vals (xs.eraseIdx i) (us.eraseIdx i)
 |_,_,_, .nil=> .nil
 |_,_,0, .cons _ t=>t
 |_,_,i+1, .cons r t=> .cons r (Vals.eraseIdx i t)
theorem Vals.reverse {xs:List V} {us:List Value} (h:Vals xs us):Vals xs.reverse us.reverse:=by
 induction h with
 |nil=>exact .nil
 |cons r t ih=>rw [List.reverse_cons,List.reverse_cons];exact Vals.append ih (.cons r .nil)
theorem Vals.rep {xs:List V} {us:List Value} (h:Vals xs us):∀k:Nat,Vals (List.replicate k xs).flatten (List.replicate k us).flatten
 |0=> .nil
 |k+1=>by
  rw [vJ,vJ,vS,vS]
  exact Vals.append h (Vals.rep h k)
theorem gu {α:Type}:∀(l:List α) (i:Nat),(l.eraseIdx i).length≤l.length
 | [],_=>uW _
 |_::_,0=>Nat.le_succ _
 |_::r,i+1=>Nat.succ_le_succ (gu r i)
theorem gG (its:List Value):∀(k:Nat) (acc:List Value),
 List.foldl (fun x1 x2=>x1++x2) acc.toArray (List.replicate k its.toArray)=(acc++(List.replicate k its).flatten).toArray
 |0,acc=>by simp
 |k+1,acc=>by
  have e:acc.toArray++its.toArray=(acc++its).toArray:=by simp
  have e2:(acc++its)++(List.replicate k its).flatten=acc++(List.replicate (k+1) its).flatten:=by
   rw [vJ,vS,List.append_assoc]
  rw [←e2,←gG its k (acc++its),←e,vJ,List.foldl_cons]
section
variable {X:Cx} {pins:List (Addr×Obj)} {σ:St} {H:Hp} {s:Shared} {l b:Addr} {xs ys zs:List V}
theorem Inv.lset {its its':List Value} {n:Nat} {f:Array Value→Array Value} {t':Nat} (I:Inv X pins σ H s) (hH:H l=some (.lst xs))
 (e:s.heap.get? l=some {cls:= .type "list",data:= .seq its.toArray n}) (hf:f its.toArray=its'.toArray) (hv:Vals ys its') (hz:ys.length≤sizeLine):
 Inv X pins σ (upd H l (.lst ys)) {s with heap:=s.heap.update l (Obj.mapSeq f),toks:=t'}:=by
 have q:=PySem.IsL.update e f
 rw [hf] at q
 refine I.write (x:=l) (e:=l) (by rw [hH];exact trivial) (.inl rfl) (fun b' u hb hu=>(Heap.get?_update_other s.heap (Obj.mapSeq f) (Ne.symm hb)).trans hu) ⟨_,q⟩ ?_
 exact ⟨hz,its',_,hv,q⟩
theorem Inv.lnew {its:List Value} {t':Nat} (I:Inv X pins σ H s) (hv:Vals ys its) (hz:ys.length≤sizeLine):
 Inv X pins σ (upd H s.heap.objs.size (.lst ys)) {s with heap:=s.heap.push {cls:= .type "list",data:= .seq its.toArray},toks:=t'}:=
 I.laid (fun _ _ q=>Heap.get?_push_of_some _ q) (uW _) ⟨hz,its,0,hv,Heap.get?_push_size _ rfl⟩
theorem Inv.fresh (I:Inv X pins σ H s):H s.heap.objs.size=none:=I.hok.fresh (uW _)
theorem Inv.lstM (I:Inv X pins σ H s) (hH:H l=some (.lst xs)):xs.length≤sizeLine∧∃(its:List Value) (n:Nat),Vals xs its∧xs.length=its.length∧s.heap.get? l=some {cls:= .type "list",data:= .seq its.toArray n}:=by
 obtain ⟨z,its,n,r,e⟩:=I.hok l _ hH
 exact ⟨z,its,n,r,r.length,e⟩
theorem oA {n:Nat} (h:n≤sizeLine):Builtin.List.listTooLong n=false:=by
 unfold Builtin.List.listTooLong
 exact decide_eq_false (by omega)
end
section
variable {X:Cx}
def qf:V→List V→Hp→VK→Prop:=fun x vs H Q=>∃l xs y,x= .ref l∧vs= [y]∧H l=some (.lst xs)∧xs.length < sizeLine∧Q .non (upd H l (.lst (xs++ [y])))
theorem cr:MtM X "list.append" qf:=by
 intro pins s σ H x vs v us Q I rx rv h
 obtain ⟨l,xs,y,rfl,rfl,hH,hz,q⟩:=h
 cases rx
 obtain ⟨u,rfl,ru⟩:=rv.one
 obtain ⟨z,its,n,r,hl,e⟩:=I.lstM hH
 refine call_meets F.slot_list_append ⟨_,e,rfl⟩ F.entry_list_append (F.args_list_append_2 _ _) (PySem.list_append l its.toArray n u (by rw [uY];omega)) ⟨e,?_⟩
 refine ⟨.non,_,I.lset (its':=its++ [u]) hH e (by simp) (r.append (.cons ru .nil)) ?_,rfl,q⟩
 rw [vc,vz]
 omega
def sL:V→List V→Hp→VK→Prop:=fun x vs H Q=>∃l xs i k y,x= .ref l∧vs= [.int i]∧H l=some (.lst xs)∧ -(2^63)≤i∧i < 2^63∧seqIndex? i xs.length=some k∧xs[k]?=some y∧Q y (upd H l (.lst (xs.eraseIdx k)))
theorem oG:MtM X "list.pop" sL:=by
 intro pins s σ H x vs v us Q I rx rv h
 obtain ⟨l,xs,i,k,y,rfl,rfl,hH,h1,h2,hk,hy,q⟩:=h
 cases rx
 obtain ⟨u,rfl,ru⟩:=rv.one
 obtain ⟨t,rfl⟩:=ru
 obtain ⟨z,its,n,r,hl,e⟩:=I.lstM hH
 obtain ⟨w,hw,rw'⟩:=r.get hy
 refine call_meets F.slot_list_pop ⟨_,e,rfl⟩ F.entry_list_pop (F.args_list_pop_2 _ _)
  (MeetsSeq.list_pop_at l its.toArray n i t k w (fitsIndex_both h1 h2) (by rw [uY,←hl];exact hk) (by rw [←vE];exact hw) (by rw [uY];omega)) ⟨e,?_⟩
 refine ⟨y,_,I.lset (its':=its.eraseIdx k) hH e ?_ (r.eraseIdx k) ?_,rw',q⟩
 · show its.toArray.eraseIdxIfInBounds k=(its.eraseIdx k).toArray
   rw [List.eraseIdxIfInBounds_toArray]
 · have:=gu xs k
   omega
def rCat:R2:=fun x y H Q=>∃l b xs zs,x= .ref l∧y= .ref b∧H l=some (.lst xs)∧H b=some (.lst zs)∧xs.length+zs.length≤sizeLine∧∀p,H p=none→Q (.ref p) (upd H p (.lst (xs++zs)))
theorem d9:OpR X (binaryOp .Add) rCat:=by
 intro pins s σ H x y v u Q I rx ry h
 obtain ⟨l,b,xs,zs,rfl,rfl,hH,hB,hz,q⟩:=h
 cases rx
 cases ry
 obtain ⟨z,its,n,r,hl,e⟩:=I.lstM hH
 obtain ⟨z2,its2,n2,r2,hl2,e2⟩:=I.lstM hB
 refine PySem.P.add_list e e2 ?_ (by rw [uY,uY];omega)
 have ea:its.toArray++its2.toArray=(its++its2).toArray:=by simp
 rw [ea]
 exact ⟨.ref _,_,I.lnew (t':=s.toks) (r.append r2) (by rw [vc];omega),rfl,q _ I.fresh⟩
def rRep:R2:=fun x y H Q=>∃l k xs,x= .ref l∧y= .int k∧H l=some (.lst xs)∧ -(2^63)≤k∧k < 2^63∧xs.length*k.toNat≤sizeLine∧
 ∀p,H p=none→Q (.ref p) (upd H p (.lst (List.replicate k.toNat xs).flatten))
theorem qJ {α:Type} (xs:List α) (k:Nat):(List.replicate k xs).flatten.length=k*xs.length:=by
 induction k with
 |zero=>simp
 |succ k ih=>rw [vJ,vS,vc,ih,Nat.succ_mul,Nat.add_comm]
theorem sS:OpR X (binaryOp .Mult) rRep:=by
 intro pins s σ H x y v u Q I rx ry h
 obtain ⟨l,k,xs,rfl,rfl,hH,h1,h2,hz,q⟩:=h
 cases rx
 obtain ⟨t,rfl⟩:=ry
 obtain ⟨z,its,n,r,hl,e⟩:=I.lstM hH
 have hlen:its.toArray.size*k.toNat≤sizeLine:=by rw [uY,←hl];exact hz
 have hcap:¬its.toArray.size*k.toNat >(2^63 - 1) / 8:=by
  have:(sizeLine:Nat)≤(2^63 - 1) / 8:=by decide
  omega
 have hfit:¬(!Builtin.List.listFitsIndex k)=true:=by
  rw [fitsIndex_both h1 h2]
  exact v5
 have hlong:¬Builtin.List.listTooLong (its.toArray.size*k.toNat)=true:=by
  rw [oA hlen]
  exact v5
 have hnew:List.foldl (fun x1 x2=>x1++x2) #[] (List.replicate (if its.toArray.isEmpty=true then 0 else k.toNat) its.toArray)=(List.replicate k.toNat its).flatten.toArray:=by
  have f0:∀m:Nat,List.foldl (fun x1 x2=>x1++x2) #[] (List.replicate m its.toArray)=(List.replicate m its).flatten.toArray:=fun m=>by
   have:=gG its m []
   rw [List.nil_append] at this
   exact this
  rw [f0]
  cases its with
  |nil=>simp
  |cons a r'=>rw [if_neg (by simp)]
 refine wpAny_binaryOp_repeat_ref (T:="list") (U:="int") (by decide) ⟨_,e,rfl⟩ (fun s'=>typeIs_int s' k t) noFill_list_mul F.fills_int_mul F.slot_int_rmul repeat_list F.slot_int_index.lookup
  (call_meets F.slot_int_rmul (typeIs_int s k t) F.entry_int_rmul (F.args_int_rmul_2 _ _) (int___rmul___int_list k t l its.toArray n)
   ⟨e,rfl,⟨_,e,rfl⟩,call_meets F.slot_list_mul ⟨_,e,rfl⟩ F.entry_list_mul (F.args_list_mul_2 _ _) (AutoListH.list___mul___list_int_3 l its.toArray n k t hfit hcap hlong) ⟨e,?_⟩⟩)
 rw [hnew]
 exact ⟨.ref _,_,I.lnew (t':=s.toks) (r.rep k.toNat) (by rw [qJ,Nat.mul_comm];exact hz),rfl,q _ I.fresh⟩
end
section
variable {prog:Program} {w:World} {A:Around} {E:Value→Shared→Prop} {s:Shared}
end
section
variable {X:Cx}
end
end L2
namespace Att
open PySem PySem.W PySem.Calls PyProof.Rows
theorem eJ {P:Params} {h:Heap}:∀(ns:List Int) (vs:List Value),WellAll P h vs (ns.map WData.int)→IntsAre vs ns:=by
 intro ns
 induction ns with
 |nil=>
  intro vs w
  rw [List.map_nil] at w
  cases w
  exact .nil
 |cons n ns ih=>
  intro vs w
  rw [uZ] at w
  cases w with
  |cons a b=>
   cases a
   exact .cons _ _ (ih _ b)
theorem lU {l:OpenLaw} {n:Nat} (hn:l.most=some n) {P:Params} {h:Heap} {args:List WData} {vals:List Value}
 (hpre:l.row.toRowW.claim.pre args=true) (hwl:WellAll P h vals args):
 ∃a vs ns,vals= [Value.ref a]∧args= [WData.list (ns.map WData.int)]∧h.get? a=some {cls:= .type "list",data:= .seq vs.toArray}∧IntsAre vs ns∧ns.length≤n:=by
 have hsh:WShape.hasAll [] args [.list .int]=true:=(pre_splitW hpre).1
 have hc:l.pre.holds [] {args:=args} =true:=(pre_splitW hpre).2
 obtain ⟨d,r,rfl,h1,h2⟩:=hasAllW_cons hsh
 obtain rfl:=hasAllW_nil h2
 obtain ⟨xs,rfl,h3⟩:=hasW_list h1
 obtain ⟨ns,rfl⟩:=items_int h3
 have hlen:ns.length≤n:=by
  unfold OpenLaw.pre at hc
  have h4:(WTm.not (.lt (.lit (.int (n:Int))) (.len (.arg 0)))).holds [] {args:= [.list (ns.map .int)]} =true:=by
   have h4:=(holds_andW hc).1
   rw [hn] at h4
   exact h4
  have h5:=condW_of h4 (w_not (w_lt w_lit (w_len_list (w_arg rfl))))
  rw [uT] at h5
  refine Nat.le_of_not_lt fun q=> ?_
  have q':(n:Int) < ((ns.length:Nat):Int):=by omega
  first
   |(rw [decide_eq_true q'] at h5;exact absurd h5 (by decide))
   |(simp at h5;omega)
 cases hwl with
 |cons w1 w2=>
  cases w2
  cases w1 with
  |list ho hall=>exact ⟨_,_,ns,rfl,rfl,ho,eJ ns _ hall,hlen⟩
theorem lX (l:OpenLaw) (args:List WData):l.row.toRowW.claim.post args (.bool true) args=true:=
 postW_of (r:=l.row.toRowW) (X:=(true==true))
  (show WShape.has [] (.bool true) .bool=true by first|rfl|decide|simp [WShape.has,WShape.arms,WShape.armsAll])
  (show (WTm.eq .res (.lit (.bool true))).value [] {args:=args,res:=some (.bool true),after:=args} =some (.bool (true==true)) from w_eq_bool (w_res rfl) w_lit) rfl
theorem attach_call {l:OpenLaw} {n:Nat} {q:Program} {loose:List Str} {XP:(Str→Option Value)→Heap→Prop} {YP:World→Heap→Prop} {d:DefRec}
 (hn:l.most=some n) (hdf:d.params.defaults= [])
 (call:∀(w:World) (s₀ s₁:Shared) (mg mb:Str→Option Value) (fa:Addr) (o:Obj) (pm cd doc:Value) (a:Addr) (vs:List Value) (ns:List Int),
  Ground q loose [] XP w s₀ mg mb s₁.heap→YP w s₁.heap→
  s₁.heap.get? fa=some o→o.data= .func (docDef d.name d.params d.body d.scope pm cd doc)→s₁.heap.CodeRec cd d.name→mg d.name=some (.ref fa)→
  s₁.heap.get? a=some {cls:= .type "list",data:= .seq vs.toArray}→IntsAre vs ns→ns.length≤n→s₁.gens= #[]→
  codeAny (model l.prog w) callerA (.call (.ref fa) ⟨[.ref a],[]⟩) (fun r s'=>r= .ok (.ret (.bool true))∧OldK s₁.heap s'.heap∧s'.os=s₁.os∧AllBare s'.gens) s₁):
 WalkO q loose XP YP l.row.toRowW d [] (fun f vs=>PySem.call f vs):=by
 intro w s₀ s₁ mg mb G Y fa o pm cd doc dV kV ho hd hcd hD hmg hg args vals as hpre hlay hrd hwl hlo
 obtain rfl:dV= .none:=Dflts.none hD hdf
 obtain rfl:kV= .none:=Dflts.noKw hD
 obtain ⟨a,vs,ns,rfl,rfl,hobj,hints,hlen⟩:=lU hn hpre hwl
 refine enter_call (codeAny_mono (call w s₀ s₁ mg mb fa o pm cd doc a vs ns G Y ho (fd_plain hd) hcd hmg hobj hints hlen hg) fun r s' hq=> ?_)
 obtain ⟨rfl,h2,h3,h4⟩:=hq
 exact ⟨.inl ⟨.bool true, .bool true,[],rfl,fun _=>rfl, .bool true,lX l _,fun _=>⟨List.Pairwise.nil,fun _ hm=>(nomatch hm)⟩⟩,h2,h3,h4⟩
section
variable {prog:Program} {w:World} {A:Around} {E:Value→Shared→Prop} {s:Shared} {K:Frag}
end
end Att
namespace L2
open PySem PySem.Spec PyProof.Rows
theorem fZ:∀ {vs:List Value} {ns:List Int},IntsAre vs ns→Vals (ns.map V.int) vs
 |_,_, .nil=> .nil
 |_,_, .cons n t h=> .cons ⟨t,rfl⟩ (fZ h)
def Only (H:Hp):Prop:=∀b,H b=none∨∃o xs,H b=some (.frz o (.lst xs))
theorem oQ {P:Program} {w:World} {K:PySem.W.Frag} {mg mb:Str→Option Value} {CX:CXT} {k:Nat} {fa a:Addr} {fd:FuncData} {x:Str} {sp:Sp} {s₁:Shared} {vs:List Value} {ns:List Int}
 (KX:K.In s₁.heap) (hns:s₁.heap.Ns mainGlobals mg) (hb:s₁.heap.Ns builtinsNs mb) (hbb:∀x:Str,x≠"__name__"→mb x=bootBuiltins x) (hlim:s₁.heap.NoLimit) (hg:s₁.gens= #[])
 (ha:s₁.heap.get? a=some {cls:= .type "list",data:= .seq vs.toArray}) (hi:IntsAre vs ns) (hl:ns.length≤sizeLine) (hr:Room k callerA)
 (F:∀base:Heap,K.In base→base.Ns mainGlobals mg→FnOk P w K mg base CX k fa fd [x] sp) (hbind:∀(s:Shared) (u:Value),BindsTo s fd ⟨[u],[]⟩ [(x,u)])
 (hsp:∀H:Hp,Only H→SqL K H a (ns.map V.int)→sp [.ref a] H (fun v _=>v= .bl true) fun _ _ _=>False)
 (hCX:∀H e s',CX [] H s₁ (fun _ _ _=>False) e s'→False):
 codeAny (model P w) callerA (.call (.ref fa) ⟨[.ref a],[]⟩) (fun r s'=>r= .ok (.ret (.bool true))∧OldK s₁.heap s'.heap∧s'.os=s₁.os∧AllBare s'.gens) s₁:=by
 have rv:=fZ hi
 have lenV:=hi.length
 have core:∀H:Hp,Only H→SqL K H a (ns.map V.int)→HOk P w H s₁.heap→(∀b,H b≠none→b=a)→(H a≠none→K.lookup a=none)→
  codeAny (model P w) callerA (.call (.ref fa) ⟨[.ref a],[]⟩) (fun r s'=>r= .ok (.ret (.bool true))∧OldK s₁.heap s'.heap∧s'.os=s₁.os∧AllBare s'.gens) s₁:=by
  intro H hO hS hok hA hK
  have base_of:∀ {b:Addr} {o:Obj},s₁.heap.get? b=some o→H b=none→(hidT s₁.heap H).get? b=some o:=fun e n=>oZ e n
  have noA:∀ {b:Addr} {o:Obj} {es:Array DictEntry} {ep:Nat},s₁.heap.get? b=some o→o.data= .dict es ep→H b=none:=fun {b o es ep} e d=>by
   cases q:H b with
   |none=>rfl
   |some u=>
    have e':b=a:=hA b (by rw [q];simp)
    subst e'
    rw [ha] at e;cases e
    have d':Data.seq vs.toArray _=Data.dict es ep:=d
    cases d'
  have nsK:∀ {b:Addr} {m:Str→Option Value},s₁.heap.Ns b m→(hidT s₁.heap H).Ns b m:=fun {b m} ⟨o,es,ep,e,d,r⟩=>⟨o,es,ep,base_of e (noA e d),d,r⟩
  have hKb:K.In (hidT s₁.heap H):=fun b o e=>base_of (KX b o e) (by
   cases q:H b with
   |none=>rfl
   |some u=>
    have e':b=a:=hA b (by rw [q];simp)
    subst e'
    rw [hK (by rw [q];simp)] at e;cases e)
  have hM:Mod K mg (hidT s₁.heap H):=⟨hKb,nsK hns,⟨mb,nsK hb,hbb⟩,let ⟨mc,h1,h2⟩:=hlim;⟨mc,nsK h1,h2⟩⟩
  have e0:Env0 P w K mg (hidT s₁.heap H) callerA [] s₁ H:=⟨rfl,hM,fun b o e=>⟨(ki e).1, .inl (ki e).2⟩,Nat.le_of_eq (mj _ _),trivial,fun b hb=>absurd (show b∈([]:List Addr) from hb) (by simp),hok, .of_eq hg⟩
  refine codeAny_mono ((F _ hKb (nsK hns)).run callerA [] s₁ H ⟨[.ref a],[]⟩ [.ref a] [.ref a] _ _ hr e0 (hbind s₁ (.ref a)) (.cons rfl .nil) (hsp H hO hS)) fun r s' h=> ?_
  cases r with
  |error e=>exact (hCX H e s' h).elim
  |ok fl=>
   cases fl with
   |next=>exact False.elim h
   |brk=>exact False.elim h
   |cont=>exact False.elim h
   |ret u=>
    obtain ⟨v,H',os,bare,un,hok',r',q⟩:=h
    have q':v= .bl true:=q
    subst q'
    obtain rfl:u=Value.bool true:=r'
    refine ⟨rfl,OldK.of_keep fun b o e=> ?_,os,bare⟩
    cases q:H b with
    |none=>exact un.keep b o e (.inl q) (by intro z;exact absurd (show b∈([]:List Addr) from z) (by simp)) (by simp)
    |some u=>
     rcases hO b with z|⟨ob,xs,z⟩
     · rw [q] at z;cases z
     · have z2:=un.frzs b ob _ z
       obtain ⟨e1,_⟩:=hok b _ z
       obtain ⟨e2,_⟩:=hok' b _ z2
       rw [e] at e1;cases e1
       exact e2
 cases hk:K.lookup a with
 |some o=>
  have e:=KX a o hk
  rw [ha] at e
  cases e
  refine core (fun _=>none) (fun _=> .inl rfl) (.inr ⟨_,vs.toArray,_,hk,rfl,rfl,rfl,by rw [uY,lenV];exact hl,by simpa using rv⟩) (fun b u z=>by have z':(none:Option HO)=some u:=z;cases z') (fun b z=>absurd rfl z) fun z=>absurd rfl z
 |none=>
  refine core (fun b=>if b=a then some (.frz {cls:= .type "list",data:= .seq vs.toArray} (.lst (ns.map V.int))) else none) (fun b=> ?_) (.inl (.inr ⟨{cls:= .type "list",data:= .seq vs.toArray},if_pos rfl⟩)) (fun b u z=> ?_) (fun b z=> ?_) fun _=>hk
  · by_cases hb:b=a
    · exact .inr ⟨_,_,if_pos hb⟩
    · exact .inl (if_neg hb)
  · by_cases hb:b=a
    · have z':=(if_pos hb).symm.trans z
      cases z'
      subst hb
      exact ⟨ha,by rw [uT];exact hl,vs,_,rv,ha⟩
    · have z':=(if_neg hb).symm.trans z
      cases z'
  · by_cases hb:b=a
    · exact hb
    · exact absurd (if_neg hb) z
open PySem PySem.Spec PyProof.Rows
theorem walk_of {l:PySem.W.OpenLaw} {n k:Nat} {q:Program} {loose:List Str} {XP:(Str→Option Value)→Heap→Prop} {YP:World→Heap→Prop} {d:DefRec} {K:Params→PySem.W.Frag} {CX:World→CXT} {sp:World→Sp} {x:Str}
 (hn:l.most=some n) (hn2:n≤sizeLine) (hdf:d.params.defaults= []) (hr:Room k callerA)
 (hY:∀(w:World) (h:Heap),YP w h→(K w.params).In h)
 (F:∀(w:World) (mg:Str→Option Value) (fa:Addr) (h:Heap),(K w.params).In h→h.Ns mainGlobals mg→mg d.name=some (.ref fa)→
  ∃fd:FuncData,(∀(s:Shared) (u:Value),BindsTo s fd ⟨[u],[]⟩ [(x,u)])∧
   ∀base:Heap,(K w.params).In base→base.Ns mainGlobals mg→FnOk l.prog w (K w.params) mg base (CX w) k fa fd [x] (sp w))
 (hsp:∀(w:World) (H:Hp) (a:Addr) (ns:List Int),ns.length≤n→Only H→SqL (K w.params) H a (ns.map V.int)→sp w [.ref a] H (fun v _=>v= .bl true) fun _ _ _=>False)
 (hCX:∀(w:World) (H:Hp) (s:Shared) (e:Value) (s':Shared),CX w [] H s (fun _ _ _=>False) e s'→False):
 PySem.W.WalkO q loose XP YP l.row.toRowW d [] (fun f vs=>PySem.call f vs):=by
 refine Att.attach_call hn hdf fun w s₀ s₁ mg mb fa o pm cd doc a vs ns G Y ho hd hcd hmg hobj hints hlen hg=> ?_
 have KX:=hY w _ Y
 obtain ⟨fd,hb,hF⟩:=F w mg fa _ KX G.T.g hmg
 exact oQ KX G.T.g G.T.b G.T.builtins G.T.nolimit hg hobj hints (vh hlen hn2) hr hF hb (fun H hO hS=>hsp w H a ns hlen hO hS) fun H e s'=>hCX w H s₁ e s'
open PySem PySem.Spec PyProof.Rows
noncomputable def kI (s:Stmt) (j:Nat):Stmt:=match s with
 | .ClassDef _ _ _ body _ _ _ _ _ _ _=>body.getD j (.Pass ⟨0,0,0,0⟩)
 |_=> .Pass ⟨0,0,0,0⟩
noncomputable def aK (s:Stmt):Arguments:=match s with
 | .FunctionDef _ a _ _ _ _ _ _ _ _=>a
 |_=> {posonlyargs:= [],args:= [],vararg:=none,kwonlyargs:= [],kw_defaults:= [],kwarg:=none,defaults:= []}
noncomputable def aB (s:Stmt):List Stmt:=match s with
 | .FunctionDef _ _ b _ _ _ _ _ _ _=>b
 |_=> []
noncomputable def af (s:Stmt):Scope:=match s with
 | .FunctionDef _ _ _ _ _ _ sc _ _ _=>sc
 |_=> {kind:= .function,names:= [],isGenerator:=false,isCoroutine:=false}
abbrev CX0:CXT:=fun _ _ _ _ _ _=>False
abbrev E0:XK:=fun _ _ _=>False
theorem aL {X:Cx}:fQ CX0 X E0:=fun _ _ _ _ _ _ _ h=>h.elim
structure Fun (K:PySem.W.Frag) (x qual:Str) (st:Stmt) (f:Addr) (fd:FuncData):Prop where
 ex:∃(oc:Value) (od:Option Addr) (kV doc pm:Value) (an:Option Addr) (cdv ct:Value) (osl:Array (Option Value)),
  fd=PySem.W.fnOf x qual (aK st) (aB st) (af st) .none kV doc pm an cdv ct∧K.lookup f=some ⟨oc,od, .func fd,osl⟩∧PySem.W.codeIn K cdv qual=true
 kp:PySem.W.keepIn K (.ref f)=true
section
variable {P:Program} {w:World} {K:PySem.W.Frag} {mg:Str→Option Value} {base:Heap}
theorem Fun.ok {x qual:Str} {st:Stmt} {f:Addr} {fd:FuncData} {N ps:List Str} {k:Nat} {sp:Sp} (F:Fun K x qual st f fd) (S:aN N ps (af st)) (len:∀vs H Q E,sp vs H Q E→vs.length=ps.length)
 (hbody:∀(cdv:Value) (A:Around) (outer:List Env) (s:Shared) (H:Hp) (vs:List V) (Q:VK) (E:XK),Room k (A.deeper (envOfC qual (af st) s.heap.objs.size f cdv))→sp vs H Q E→
  ∃t,PSs (cxOf CX0 P w K mg base N qual (af st) f cdv A outer s H E).nox (aB st) t∧t {nx:=fun _ H'=>Q .non H',rt:=Q} (dk N vs) H):FnOk P w K mg base CX0 (k+1) f fd ps sp:=by
 obtain ⟨oc,od,kV,doc,pm,an,cdv,ct,osl,rfl,lk,hcd⟩:=F.ex
 refine rT lk hcd S len fun A outer s H vs Q E hr hsp=> ?_
 obtain ⟨t,h,q⟩:=hbody cdv A outer s H vs Q E hr hsp
 exact ⟨t,h.nox,q⟩
theorem Fun.binds {x qual:Str} {st:Stmt} {f:Addr} {fd:FuncData} {ps:List Str} (F:Fun K x qual st f fd)
 (h:∀(kV doc pm:Value) (an:Option Addr) (cdv ct:Value) (us:List Value),us.length=ps.length→bindArgs (PySem.W.fnOf x qual (aK st) (aB st) (af st) .none kV doc pm an cdv ct) ⟨us,[]⟩=pure (ps.zip us)):Binds K fd ps []:=by
 obtain ⟨oc,od,kV,doc,pm,an,cdv,ct,osl,rfl,lk,hcd⟩:=F.ex
 exact .all (h kV doc pm an cdv ct)
theorem b7 {x qual:Str} {st:Stmt} {f:Addr} {oc:Value} {od an:Option Addr} {osl:Array (Option Value)} {kV doc pm cdv ct:Value} (l:K.lookup f=some ⟨oc,od, .func (PySem.W.fnOf x qual (aK st) (aB st) (af st) .none kV doc pm an cdv ct),osl⟩)
 (c:PySem.W.codeIn K cdv qual=true) (k:PySem.W.keepIn K (.ref f)=true):Fun K x qual st f (PySem.W.fnOf x qual (aK st) (aB st) (af st) .none kV doc pm an cdv ct):=⟨⟨oc,od,kV,doc,pm,an,cdv,ct,osl,rfl,l,c⟩,k⟩
end
theorem ge {n:Nat} (h:n≤1000):n < sizeLine:=vA h (by decide)
section
variable {X:Cx}
theorem pv (i:Nat) {x:Str} {pos:Pos} (hN:X.N[i]?=some x:=by rfl) (hv:Vis X.env.scope x:=by first|exact Or.inl rfl|exact Or.inr (Or.inl rfl)|exact Or.inr (Or.inr rfl)) (hd:(x==("__debug__":Str))=false:=by decide)
 (hcd:(x==("__classdict__":Str))=false:=by decide):PE X (.Name x pos) (tVar i):=sO hN hv hd hcd
end
theorem iteF {A B:Prop} (h:B):if false=true then A else B:=by
 rw [if_neg v5]
 exact h
theorem iteT {A B:Prop} (h:A):if true=true then A else B:=by
 rw [if_pos rfl]
 exact h
theorem ite2 {c A B:Prop} [Decidable c] (h1:c→A) (h2:¬c→B):if c then A else B:=by
 by_cases h:c
 · rw [if_pos h]
   exact h1 h
 · rw [if_neg h]
   exact h2 h
def Same (H H':Hp):Prop:=∀b o,H b=some o→H' b=some o
theorem Same.refl (H:Hp):Same H H:=fun _ _ h=>h
theorem Same.trans {H H1 H2:Hp} (a:Same H H1) (b:Same H1 H2):Same H H2:=fun c o h=>b c o (a c o h)
theorem Same.free {H H':Hp} (e:Same H H') {l:Addr} (h:H' l=Option.none):H l=Option.none:=by
 cases q:H l with
 |none=>rfl
 |some o=>
  rw [e l o q] at h
  cases h
theorem Same.seq {K:PySem.W.Frag} {H H':Hp} {a:Addr} {xs:List V} (e:Same H H') (h:SqL K H a xs):SqL K H' a xs:=by
 rcases h with (h|⟨o,h⟩)|h
 · exact .inl (.inl (e _ _ h))
 · exact .inl (.inr ⟨o,e _ _ h⟩)
 · exact .inr h
end L2
namespace Srt
open PySem PySem.W PyProof.Rows
structure Ord (lt:Nat→Nat→Bool):Prop where
 asym:∀a b,lt a b=true→lt b a=false
 tr:∀a b c,lt b a=false→lt c b=false→lt c a=false
theorem Ord.up {lt:Nat→Nat→Bool} (O:Ord lt) {a b c:Nat} (h:lt a b=true) (h2:lt c b=false):lt a c=true:=by
 cases e:lt a c with
 |true=>rfl
 |false=>
  have:=O.tr b c a h2 e
  rw [h] at this
  cases this
variable {lt:Nat→Nat→Bool} {N:Nat}
def g (p:Array Nat) (k:Nat):Nat:=p.getD k 0
def Pm (N:Nat) (p:Array Nat):Prop:=p.toList.Perm (List.range N)
theorem Pm.size {p:Array Nat} (h:Pm N p):p.size=N:=by
 have:=h.length_eq
 rw [vy,List.length_range] at this
 exact this
theorem tO {p:Array Nat} (k:Nat):g p k=(p[k]?).getD 0:=by
 unfold g
 rw [Array.getD_eq_getD_getElem?]
theorem Pm.bd {p:Array Nat} (h:Pm N p) {k:Nat} (hk:k < N):g p k < N:=by
 have hs:=h.size
 have:p[k]?=some (p[k]'(by omega)):=Array.getElem?_eq_getElem _
 rw [tO,this]
 have m:p[k]'(by omega)∈p.toList:=Array.mem_toList_iff.mpr (Array.getElem_mem _)
 exact vG.mp (h.mem_iff.mp m)
end Srt
namespace L2
open PySem
section
variable {M:Model} {prog:Program} {w:World} {A:Around} {E:Value→Shared→Prop} {h:Heap} {g:Array GenState} {d:Drawn} {t:Nat} {os:OsState}
variable {nm q:Str} {C N:Addr} {bs bm bmB:List Value} {hdct:Bool} {sn:List Str} {sub:List Value} {ab:Bool} {col:Option Bool} {dd:Option Addr} {k0 k1 k2 k3 k5:Option Value} {B newId initId:String}
structure Line (B:String) (bm:List Value):Prop where
 own:bm.contains (.type B)=true
 top:bm.contains (.type "BaseException")=true
 attr:bm.contains (.type "AttributeError")=false
 name:bm.contains (.type "NameError")=false
theorem Line.cons {C:Addr} (l:Line B bm):Line B (.ref C::bm):=
 ⟨by rw [List.contains_cons,l.own,Bool.or_true],by rw [List.contains_cons,l.top,Bool.or_true],by rw [List.contains_cons,l.attr];rfl,by rw [List.contains_cons,l.name];rfl⟩
theorem qH (Fn:ExcBaseFacts B newId initId bmB) (l:Line B bm) {args:List Value} {Q:Unit→Shared→Prop}
 (oC:h.get? C=some (excClassObj nm q C N bs bm hdct sn sub ab col dd k0 k1 k2 k3 k5 newId)) (z:Q () ⟨h,g,d,t,os⟩):
 wpAny M A (checkBuiltinCall newId ⟨.ref C::args,[]⟩) Q E ⟨h,g,d,t,os⟩:=by
 have own:=(l.cons (C:=C)).own
 have st:=Fn.noStar
 simp only [checkBuiltinCall,Fn.newKind,Fn.newSplit,Fn.newRow]
 repeat
  first
  |refine wpAny_loadPart_at oC ?_
  |(refine wpAny_isSubtype_exc oC ?_;rw [own])
  |refine wpAny_staticBase_exc oC ?_
  |refine wpAny_madeBy_exc oC ?_
  |simp only [bne_self_eq_false,Bool.false_eq_true,if_false]
  |wp_step
 exact z
theorem qG (Fn:ExcBaseFacts B newId initId bmB) (l:Line B bm) {args:List Value} {R:Result→Shared→Prop}
 (oC:h.get? C=some (excClassObj nm q C N bs bm hdct sn sub ab col dd k0 k1 k2 k3 k5 newId)) (sz:args.length≤sizeLine)
 (z:R (.ok (.ret (.ref (h.objs.size+1)))) ⟨(h.push {cls:= .type "tuple",data:= .seq args.toArray}).push {cls:= .ref C,data:= .fields #[.ref h.objs.size, .none, .none, .none, .bool false, .none]},g,d,t,os⟩):
 codeAny (model prog w) A (.builtin newId ⟨.ref C::args,[]⟩) R ⟨h,g,d,t,os⟩:=by
 have en:=Fn.ends
 have c1:=(l.cons (C:=C)).own
 have c2:=(l.cons (C:=C)).attr
 have c3:=(l.cons (C:=C)).name
 refine codeAny_builtinAt Fn.entry ?_
 unfold Builtin.«BaseException.__new__»
 refine wpAt_bind ?_
 show wpAt _ _ _ (stack >>=_) _ _ _
 refine wpAt_bind (wpAt_stack fun p below=>wpAt_of_wpAny ?_)
 wp_walk
 refine wpAt_of_wpAny ?_
 rw [Fn.owner]
 repeat
  first
  |with_reducible refine wpAny_madeHere_exc Fn.canon oC ?_
  |with_reducible refine wpAny_loadPart_at oC ?_
  |(with_reducible refine wpAny_isSubtype_exc oC ?_;first|rw [c1]|rw [c2]|rw [c3])
  |wp_step
 show R _ _
 rw [Heap.size_push]
 exact z
theorem fV (Fn:ExcBaseFacts B newId initId bmB) (l:Line B bm) {K:PySem.W.Frag} {args:List Value} {fI:Addr} {Q:Fin→Shared→Prop}
 (oC:h.get? C=some (excClassObj nm q C N bs bm hdct sn sub ab col dd k0 k1 k2 k3 k5 newId)) (X:K.In h) (hi:PySem.W.findIn K (.ref C) "__init__"=some (some (.ref fI))) (hf:PySem.W.isFn K (.ref fI)=true) (sz:args.length≤sizeLine)
 (z:∀h' e,Heap.MadeExcOf h h' e (.ref C) args→e=h.objs.size+1→
  wpAny (model prog w) A (call (.ref fI) (.ref e::args)) (fun r s'=>r= .none∧Q (.done (.ret (.ref e))) s') E ⟨h',g,d,t,os⟩):
 wpAny (model prog w) A (Builtin.«type.__call__» ⟨.ref C::args,[]⟩) Q E ⟨h,g,d,t,os⟩:=by
 repeat
  first
  |with_reducible refine wpAny_loadPart_at oC ?_
  |with_reducible refine wpAny_madeBy_exc oC ?_
  |wp_step
 refine codeAny_call_builtin_code (Code.quiet_builtin _ Fn.quiet) (qH Fn l oC ?_)
 refine qG Fn l oC sz ?_
 show wpAny _ _ _ _ _ _
 have up:∀b o,h.get? b=some o→((h.push {cls:= .type "tuple",data:= .seq args.toArray}).push {cls:= .ref C,data:= .fields #[.ref h.objs.size, .none, .none, .none, .bool false, .none]}).get? b=some o:=
  fun b o e=>Heap.get?_push_of_some _ (Heap.get?_push_of_some _ e)
 have oC1:=up _ _ oC
 have it:((h.push {cls:= .type "tuple",data:= .seq args.toArray}).push
  {cls:= .ref C,data:= .fields #[.ref h.objs.size, .none, .none, .none, .bool false, .none]}).get? (h.objs.size+1)=some
  {cls:= .ref C,data:= .fields #[.ref h.objs.size, .none, .none, .none, .bool false, .none]}:=by heap_get
 have me:(Value.ref C::bm).contains (.ref C)=true:=by simp
 unfold isInstance
 repeat
  first
  |with_reducible refine wpAny_loadPart_at it ?_
  |(with_reducible refine wpAny_isSubtype_exc oC1 ?_;rw [me])
  |wp_step
 show wpAny _ _ (typeLookup (.ref C) _) _ _ _
 have Lk:=PySem.W.looks_findIn (M:=model prog w) (X.keeps up) hi
 refine Lk.here ?_
 refine wpAny_holding (wpAny_bind ?_)
 have Bf:=PySem.W.bind_fn (M:=model prog w) (X.keeps up) (.ref (h.objs.size+1)) (beq_iff_eq.mp hf)
 refine Bf.here ?_
 refine wpAny_bind (wpAny_mono (z _ (h.objs.size+1) ⟨up,Heap.get?_none_of_le (Nat.le_succ _),h.objs.size,it,Heap.get?_none_of_le (uW _),?_⟩ rfl) (fun r s' hr=> ?_) fun _ _ x=>x)
 · exact Heap.get?_push_of_some _ (Heap.get?_push_at rfl rfl)
 · obtain ⟨rfl,hQ⟩:=hr
   wp_walk
   exact hQ
theorem pH (Fn:ExcBaseFacts B newId initId bmB) (l:Line B bm) {K:PySem.W.Frag} {args:List Value} {fI:Addr} {Q:Value→Shared→Prop}
 (oC:h.get? C=some (excClassObj nm q C N bs bm hdct sn sub ab col dd k0 k1 k2 k3 k5 newId)) (X:K.In h) (hi:PySem.W.findIn K (.ref C) "__init__"=some (some (.ref fI))) (hf:PySem.W.isFn K (.ref fI)=true) (sz:args.length≤sizeLine)
 (z:∀h' e,Heap.MadeExcOf h h' e (.ref C) args→e=h.objs.size+1→
  wpAny (model prog w) (A.under (.builtin "type.__call__" ⟨.ref C::args,[]⟩)) (call (.ref fI) (.ref e::args)) (fun r s'=>r= .none∧Q (.ref e) s') E ⟨h',g,d,t,os⟩):
 wpAny (model prog w) A (call (.ref C) args) Q E ⟨h,g,d,t,os⟩:=by
 have f1:=tc_lookup
 have f2:=tc_bind (.ref C)
 have ty:(⟨h,g,d,t,os⟩:Shared).TypeIs (.ref C) "type":=⟨_,oC,rfl⟩
 refine wpAny_call (codeAny_of_tree ?_)
 show wpAny _ _ (callAny (.ref C) _) _ _ _
 repeat
  any_goals
   first
   |assumption
   |with_reducible refine wpAny_loadPart_at oC ?_
   |wp_step
 refine ⟨rfl,?_⟩
 exact codeAny_call_builtin_at (Code.quiet_builtin _ (by decide +kernel)) entry_typeCall (wpAny_check_type_call_sub oC (fV Fn l oC X hi hf sz fun h' e hm ee=>z h' e hm ee))
end
end L2
namespace L2
section
open PySem
variable {prog:Program} {w:World} {A:Around} {E:Value→Shared→Prop} {h:Heap} {g:Array GenState} {d:Drawn} {t:Nat} {os:OsState}
variable {nm q:Str} {C N:Addr} {bs bm bmB:List Value} {hdct:Bool} {sn:List Str} {sub:List Value} {ab:Bool} {col:Option Bool} {dd:Option Addr} {k0 k1 k2 k3 k5:Option Value} {B newId nid initId:String}
theorem oI (Fn:ExcBaseFacts B nid initId bmB) (l:Line B bm) {M:Model} {e:Addr} {oe:Obj} {args:List Value} {Q:Unit→Shared→Prop}
 (oC:h.get? C=some (excClassObj nm q C N bs bm hdct sn sub ab col dd k0 k1 k2 k3 k5 newId)) (oE:h.get? e=some oe) (cE:oe.cls= .ref C) (z:Q () ⟨h,g,d,t,os⟩):
 wpAny M A (checkBuiltinCall initId ⟨.ref e::args,[]⟩) Q E ⟨h,g,d,t,os⟩:=by
 have own:=(l.cons (C:=C)).own
 have st:=Fn.noStar
 simp only [checkBuiltinCall,Fn.initKind,Fn.initSplit,Fn.initRow]
 repeat
  first
  |(with_reducible refine wpAny_loadPart_at oE ?_;rw [cE])
  |with_reducible refine wpAny_loadPart_at oC ?_
  |(with_reducible refine wpAny_isSubtype_exc oC ?_;rw [own])
  |wp_step
 refine wpAny_onRaise ?_
 rw [show∀(a b:String) (n:Nat),Bind.check ⟨.positional,"*",B, .self,[⟨"args", .varPos,false⟩]⟩ a b n (List.map (fun x=>x.fst) ({pos:=Value.ref e::args}:Args).kw)=pure () from fun a b n=>check_star_args _ _ _ _ _ _]
 exact wpAny_pure z
theorem fP (Fn:ExcBaseFacts B nid initId bmB) (l:Line B bm) {e t0:Addr} {args:List Value} {Q:Value→Shared→Prop}
 (oC:h.get? C=some (excClassObj nm q C N bs bm hdct sn sub ab col dd k0 k1 k2 k3 k5 newId)) (oE:h.get? e=some {cls:= .ref C,data:= .fields #[.ref t0, .none, .none, .none, .bool false, .none]}) (sz:args.length≤sizeLine)
 (z:∀h' t1,(∀b o,b≠e→h.get? b=some o→h'.get? b=some o)→h'.get? e=some {cls:= .ref C,data:= .fields #[.ref t1, .none, .none, .none, .bool false, .none]}→Q .none ⟨h',g,d,t,os⟩):
 wpAny (model prog w) A (call (.builtin initId) (.ref e::args)) Q E ⟨h,g,d,t,os⟩:=by
 refine wpAny_call (codeAny_call_builtin Fn.init.plain Fn.initEntry (oI Fn l oC oE rfl ?_))
 wp_walk
 refine z _ h.objs.size (fun b o hb e1=> ?_) ?_
 · rw [Heap.get?_update_other _ _ (Ne.symm hb)]
   exact Heap.get?_push_of_some _ e1
 · rw [Heap.get?_update_self _ (Heap.get?_push_of_some _ oE) rfl]
   rfl
end
open PySem PySem.Spec PyProof.Rows
noncomputable def Exo (C e:Addr):HO:= .ext fun h=>∃t,h.get? e=some {cls:= .ref C,data:= .fields #[.ref t, .none, .none, .none, .bool false, .none]}
theorem pe {P:Program} {w:World} {H:Hp} {h:Heap} {C e t:Addr} (x:h.get? e=some {cls:= .ref C,data:= .fields #[.ref t, .none, .none, .none, .bool false, .none]}):ObjOk P w H h e (Exo C e):=
 ⟨⟨t,x⟩,⟨_,x⟩,fun _ _ ⟨t',y⟩ k=>⟨t',k _ y⟩⟩
theorem sk {H:Hp} {a:Addr} {o:HO} (e:H a=some o):upd H a o=H:=by
 funext b
 unfold upd
 split
 · rename_i q
   rw [q,e]
 · rfl
structure XCls (K:PySem.W.Frag) (C fI:Addr):Prop where
 ex:∃nm q N bs bm hdct sn sub ab col dd k0 k1 k2 k3 k5,K.lookup C=some (excClassObj nm q C N bs bm hdct sn sub ab col dd k0 k1 k2 k3 k5 "ValueError.__new__")∧Line "ValueError" bm
 init:PySem.W.findIn K (.ref C) "__init__"=some (some (.ref fI))
 fn:PySem.W.isFn K (.ref fI)=true
 kp:PySem.W.keepIn K (.ref C)=true
section
variable {X:Cx} {CX:CXT} {k:Nat} {f C:Addr} {fd:FuncData} {ps:List Str} {sp:Sp} {E:XK} {x:Str} {p pos apos:Pos} {e:Expr} {es:List Expr} {t:TA}
def ss (s₀:Shared) (C:Addr) (sp:Sp) (E:XK) (t:TA):TE:=fun σ H Q=>t σ H fun vs H1=>∀x,H1 x=none→s₀.heap.get? x=none→sp (.ref x::vs) (upd H1 x (Exo C x)) (fun v H2=>v= .non∧Q (.ref x) H2) E
theorem oi (M:XCls X.K C f) (F:FnOk X.prog X.w X.K X.mg X.base CX k f fd ps sp) (hr:Room (k+1) X.A) (hg:Gl X x) (hm:X.mg x=some (.ref C)) (hb:Binds X.K fd ps []) (hx:fQ CX X E)
 (ha:PA X (e::es) t) (hsz:(e::es).length≤100) (hdb:(x==("__debug__":Str))=false:=by decide) (he:starEach (e::es) X.env=(false,eval e X.env)::starEach es X.env:=by rfl) (hpl:(backTo pos (starEach es X.env)).any (·.1)=false:=by rfl)
 (hlen:∀vs H Q E',sp vs H Q E'→vs.length≤1000):PE X (.Call (.Name x p) (e::es) [] pos) (ss X.s₀ C sp E t):=by
 intro pins s σ H Q I h
 refine wpAny_Call_Name_kw (cX I hg hm ?_ hdb)
 refine PySem.W.callWith_K (h₀:=X.base) I.ok.mod.kin M.kp (thn (ha pos pins s σ H _ I h) fun us s1 ⟨vs,H1,I1,r,z⟩=>⟨I1.kIn,?_⟩) he hpl
 obtain ⟨nm,q,N,bs,bm,hdct,sn,sub,ab,col,dd,k0,k1,k2,k3,k5,hC,hl⟩:=M.ex
 have oC:=I1.kIn _ _ hC
 have f1:H1 (s1.heap.objs.size+1)=none:=I1.hok.fresh (Nat.le_succ _)
 have f2:X.s₀.heap.get? (s1.heap.objs.size+1)=none:=Heap.get?_none_of_le (vh I1.sz (Nat.le_succ _))
 have hq:=z _ f1 f2
 have e1:vs.length=us.length:=r.length
 have l1:=hlen _ _ _ _ hq
 rw [uU] at l1
 obtain ⟨hh,g,d,tk,os⟩:=s1
 refine pH (K:=X.K) PySem.F.excBase_ValueError hl oC I1.kIn M.init M.fn (show us.length≤sizeLine from Nat.le_of_lt (ge (by omega))) fun h' e' hm' ee=> ?_
 subst ee
 obtain ⟨t0,ht0,_⟩:=hm'.there
 have I2:=I1.laid (t':=tk) (o:=Exo C (hh.objs.size+1)) (a:=hh.objs.size+1) hm'.keeps (Nat.le_succ _) (pe ht0)
 have r2:Vals (V.ref (hh.objs.size+1)::vs) (Value.ref (hh.objs.size+1)::us):= .cons rfl r
 have hl2:(Value.ref (hh.objs.size+1)::us).length=ps.length:=by
  have e:=r2.length
  rw [F.len _ _ _ _ hq] at e
  exact e.symm
 refine wpAny_call (codeAny_mono (F.run _ X.stack _ _ ⟨Value.ref (hh.objs.size+1)::us,[]⟩ (Value.ref (hh.objs.size+1)::us) _ _ E (hr.make C us [])
  (I2.env0.make C us []) (by have:=hb _ (Value.ref (hh.objs.size+1)::us) I2.kIn (by rw [vB];exact hl2);rw [vB] at this;exact this) r2 hq) fun r s' hq'=> ?_)
 cases r with
 |error e=>exact hx pins σ _ _ e s' I2 hq'
 |ok fl=>
  cases fl with
  |ret u=>
   obtain ⟨v,H',I3,rv,ev,q3⟩:=I2.after hq'
   subst ev
   exact ⟨rv,⟨V.ref (hh.objs.size+1),H',I3,rfl,q3⟩⟩
  |next=>exact False.elim hq'
  |brk=>exact False.elim hq'
  |cont=>exact False.elim hq'
def lP (K:PySem.W.Frag) (t:TA):TE:=fun σ H Q=>t σ H fun vs H1=>∃x C fI r,vs= .ref x::r∧r.length≤1000∧H1 x=some (Exo C x)∧XCls K C fI∧Q .non H1
theorem jG (K:PySem.W.Frag):PySem.W.findCls K (.type "ValueError") (.type "type") "__init__"=some (.val (.builtin "ValueError.__init__")):=by kernel_rfl
theorem iH (hg:Gl X "ValueError") (hm:X.mg "ValueError"=none) (ha:PA X (e::es) t) (he:starEach (e::es) X.env=(false,eval e X.env)::starEach es X.env:=by rfl) (hpl:(backTo pos (starEach es X.env)).any (·.1)=false:=by rfl)
 {pl:Sem Bool} (ht:eval (.Call (.Attribute (.Name "ValueError" p) "__init__" apos) (e::es) [] pos) X.env=(do
  let ov←eval (.Name "ValueError" p) X.env
  standAt apos.atName
  let (f,first)←holding [ov] (getMethod ov "__init__" pl)
  callWith pos f first (backTo pos (starEach (e::es) X.env)) (backToKw pos (keywordEach [] X.env))):=by rfl):
 PE X (.Call (.Attribute (.Name "ValueError" p) "__init__" apos) (e::es) [] pos) (lP X.K t):=by
 intro pins s σ H Q I h
 obtain ⟨m,F⟩:=I.fr
 refine PySem.W.methodCall_KW (pl:=pl) (cT I hg hm (u:= .type "ValueError") (by kernel_rfl) ?_) ht
 refine PySem.W.method_type F I.ok.mod.kin (by kernel_rfl) (by decide +kernel) (jG X.K) (by decide +kernel) ?_
 refine PyProof.Rows.callWith_builtin1 (thn (ha pos pins _ σ H _ (I.tok _) h) fun us s1 ⟨vs,H1,I1,r1,y,C,fI,r,ev,hz,hH,hX,q1⟩=> ?_) he hpl
 subst ev
 cases r1 with
 | @cons _ u0 _ ur q0 r1=>
  cases (show u0=Value.ref y from q0)
  obtain ⟨nm,q,N,bs,bm,hdct,sn,sub,ab,col,dd,k0,k1,k2,k3,k5,hC,hl⟩:=hX.ex
  have oC:=I1.kIn _ _ hC
  obtain ⟨⟨t0,oE⟩,_⟩:=(show ObjOk X.prog X.w H1 s1.heap y (Exo C y) from I1.hok y _ hH)
  have e1:r.length=ur.length:=r1.length
  obtain ⟨hh,g,d,tk,os⟩:=s1
  refine fP PySem.F.excBase_ValueError hl oC oE (Nat.le_of_lt (ge (by omega))) fun h' t1 kk oE'=> ?_
  have I2:=I1.write (x:=y) (e:=y) (o:=Exo C y) (t':=tk) (by rw [hH];exact True.intro) (.inl rfl) kk ⟨_,oE'⟩ (pe oE')
  rw [sk hH] at I2
  exact ⟨.non,H1,I2,rfl,q1⟩
end
open PySem PySem.Spec PyProof.Rows
def unt (H:Hp) (e:Addr):Hp:=fun b=>if b=e then none else H b
theorem cJ {H:Hp} {e:Addr}:unt H e e=none:=by unfold unt;rw [if_pos rfl]
theorem bY {H:Hp} {e b:Addr} (h:b≠e):unt H e b=H b:=by unfold unt;rw [if_neg h]
section
variable {X:Cx} {C fI:Addr} {E:XK} {pos:Pos} {ce:Expr} {te:TE}
end
noncomputable def CX1 (P:Program) (w:World):CXT:=fun outer H s E e s'=>∃(a C:Addr) (a0:Value) (B:Heap) (H':Hp),e= .ref a∧s'.os=s.os∧AllBare s'.gens∧s.heap.get? a=none∧H' a=none∧HOk P w H' B∧
 Heap.FlyingW B outer a (.ref C) a0 s'.heap∧(∀b o,s.heap.get? b=some o→Idl (H b)→b∉frs outer→B.get? b=some o)∧(∀b o,s.heap.get? b=some o→H b=none→b∈frs outer→∃sl,s'.heap.get? b=some {o with slots:=sl})∧
 (∀b o,s.heap.get? b=some o→H b=none→H' b=none)∧(∀b o,s.heap.get? b=some o→b∉frs outer→∃o',B.get? b=some o')∧
 (∀b xs,H b=some (.tup xs)→H' b=some (.tup xs))∧(∀b o u,H b=some (.frz o u)→H' b=some (.frz o u))∧(∀b ps,H b=some (.tbl ps)→∃more,H' b=some (.tbl (ps++more)))∧E (.ref C) none H'
theorem frs_cons {env:Env} {outer:List Env} {b:Addr}:b∈frs (env::outer)↔env.frame=some b∨b∈frs outer:=by
 unfold frs
 rw [List.filterMap_cons]
 cases q:env.frame with
 |none=>simp
 |some L=>
  simp only [vd,Option.some.injEq]
  constructor
  · rintro (z|z)
    · exact .inl z.symm
    · exact .inr z
  · rintro (z|z)
    · exact .inl z.symm
    · exact .inr z
end L2
namespace L2
section
open PySem PySem.W Builtin Builtin.ObjectAttr Builtin.Getset_descriptor
variable {prog:Program} {w:World} {A:Around} {E:Value→Shared→Prop} {h:Heap} {g:Array GenState} {d:Drawn} {t:Nat} {os:OsState} {a C:Addr} {o:Obj} {K:Frag}
structure XIs (K:Frag) (C:Addr):Prop where
 cls:(clsIn K C).isSome=true
 ga:findIn K (.ref C) "__getattribute__"=some (some (.builtin "BaseException.__getattribute__"))
 hook:findIn K (.ref C) "__getattr__"=some none
 cl:findIn K (.ref C) "__class__"=some (some (.builtin "object.__class__"))
 mo:mroIn K C (.type "object")=some true
 mb:mroIn K C (.type "BaseException")=some true
theorem bX {M:Model} {n:Str} {r:Option Value} {Q:Option Value→Shared→Prop} (X:K.In h) (e:findIn K (.ref C) n=some r) (z:Q r ⟨h,g,d,t,os⟩):wpAny M A (typeLookup (.ref C) n) Q E ⟨h,g,d,t,os⟩:=
 (looks_findIn (M:=M) X e).at z
theorem oN {M:Model} {b:Value} {r:Bool} {Q:Bool→Shared→Prop} (X:K.In h) (e:mroIn K C b=some r) (z:Q r ⟨h,g,d,t,os⟩):wpAny M A (isSubtype (.ref C) b) Q E ⟨h,g,d,t,os⟩:=
 (looks_mroIn (M:=M) X e).at z
theorem fY {R:Result→Shared→Prop} {tp:Value} (Z:XIs K C) (X:K.In h) (hx:h.get? a=some o) (hc:o.cls= .ref C) (z:R (.ok (.ret (.ref C))) ⟨h,g,d,t,os⟩):
 codeAny (model prog w) A (.call (.builtin "getset_descriptor.__get__") ⟨[.builtin "object.__class__", .ref a,tp],[]⟩) R ⟨h,g,d,t,os⟩:=by
 have L0:Looks (model prog w) h (typeOf (.ref a)) (.ref C):=by
  have:=((Looks.ld (M:=model prog w) (part:=some headPart) hx).andThen (f:=fun o=>pure o.cls) .now)
  rw [hc] at this
  exact this
 have L1:=looks_mroIn (M:=model prog w) X Z.mo
 refine codeAny_call_builtin KF.slot_gs.plain KF.entry_gs (KF.slot_gs.check _ _ _ _ _ _ _ _ KF.type_class (KF.args_gs _ _ _) ?_)
 unfold Builtin.«getset_descriptor.__get__» descrGet
 rw [dga_obj]
 refine wpAny_bind (wpAny_pure ?_)
 unfold descrGetter descrCheckInstance descrNameAndClass isInstance
 simp only [KF.owner_class]
 repeat lk
 refine ⟨Code.quiet_builtin _ (by decide +kernel),codeAny_builtin KF.entry_class ?_⟩
 unfold Builtin.«object.__class__» shownTypeOf
 repeat lk
 exact z
theorem oJ {M:Model} {nv:Value} {Q:Unit→Shared→Prop} (Z:XIs K C) (X:K.In h) (hx:h.get? a=some o) (hc:o.cls= .ref C) (z:Q () ⟨h,g,d,t,os⟩):
 wpAny M A (checkBuiltinCall "BaseException.__getattribute__" ⟨[.ref a,nv],[]⟩) Q E ⟨h,g,d,t,os⟩:=by
 have hk:builtinKind "BaseException.__getattribute__"=some .slot:=by decide +kernel
 have hs:splitId "BaseException.__getattribute__"=some ("BaseException","__getattribute__"):=by decide +kernel
 have ha:=PySem.F.args_bexc_ga (.ref a) nv
 simp only [checkBuiltinCall,hk,hs]
 refine wpAny_bind ?_
 unfold isInstance
 repeat
  first
  |(with_reducible refine wpAny_loadPart_at hx ?_;rw [hc])
  |with_reducible refine oN X Z.mb ?_
  |wp_step
 exact z
theorem mB {Q:Option Value→Shared→Prop} (Z:XIs K C) (X:K.In h) (hx:h.get? a=some o) (hc:o.cls= .ref C) (z:Q (some (.ref C)) ⟨h,g,d,t+1,os⟩):
 wpAny (model prog w) A (getAttr? (.ref a) "__class__") Q E ⟨h,g,d,t,os⟩:=by
 have f3:=PySem.F.excAttr_ValueError.ga.bind (.ref a)
 have b2:(Value.builtin "BaseException.__getattribute__"==Value.builtin "object.__getattribute__")=false:=by decide +kernel
 have b1:(onTheHeap (Value.ref C)&&Value.builtin "BaseException.__getattribute__"==Value.builtin "object.__getattribute__")=false:=by rw [b2];rfl
 have f5:=PySem.F.typeOf_object_class
 have f6:=PySem.F.slot_gs_get.lookup
 have f7:=PySem.F.slot_gs_set.lookup
 have hT5:(⟨h,g,d,t+1,os⟩:Shared).TypeIs (.builtin "object.__class__") "getset_descriptor":=PySem.F.typeOf_object_class
 unfold getAttr? getAttrBy?
 refine wpAny_bind (wpAny_mkText (wpAny_bind (wpAny_attempt ?_)))
 unfold getAttrBy
 repeat
  any_goals
   first
   |assumption
   |(with_reducible refine wpAny_loadPart_at hx ?_;rw [hc])
   |with_reducible refine bX X Z.ga ?_
   |with_reducible refine bX X Z.hook ?_
   |wp_step
 refine codeAny_call_builtin PySem.F.excAttr_ValueError.ga.plain PySem.F.entry_bexc_ga (oJ Z X hx hc ?_)
 repeat
  any_goals
   first
   |assumption
   |(with_reducible refine wpAny_loadPart_at hx ?_;rw [hc])
   |with_reducible refine bX X Z.cl ?_
   |wp_step
 refine fY Z X hx hc ?_
 repeat
  any_goals
   first
   |assumption
   |wp_step
end
end L2
namespace L2
open PySem PySem.Spec PyProof.Rows
noncomputable def Cau (C a:Addr):HO:= .ext fun h=>∃o,h.get? a=some o∧o.cls= .ref C
theorem tZ {P:Program} {w:World} {H:Hp} {h:Heap} {C a:Addr} {o:Obj} (x:h.get? a=some o) (c:o.cls= .ref C):ObjOk P w H h a (Cau C a):=
 ⟨⟨o,x,c⟩,⟨_,x⟩,fun _ _ ⟨o',y,c'⟩ k=>⟨o',k _ y,c'⟩⟩
theorem fj {K:PySem.W.Frag} {C a:Addr} (Z:XIs K C):PySem.W.KitX K (.ref a) (.ref C) (fun h=>∃o,h.get? a=some o∧o.cls= .ref C) where
 ty:=fun M h _ ⟨o,e,c⟩=>by
  have:=((PySem.W.Looks.ld (M:=M) (part:=some headPart) e).andThen (f:=fun o=>pure o.cls) .now)
  rw [c] at this
  exact this
 it:=fun M h X _=>by
  have hc:=Z.cls
  unfold PySem.W.clsIn at hc
  split at hc
  · rename_i ho
    intro A' Q' E' s' k q
    unfold isType loadHead
    exact wpAny_bind (wpAny_loadPart (k _ _ (X _ _ ho)) (wpAny_pure q))
  · cases hc
 ne:=fun h tp dd its n sl X htp=>by
  have hc:=Z.cls
  refine vT.mpr fun q=> ?_
  have e:C=tp:=Value.ref.inj (beq_iff_eq.mp q)
  subst e
  unfold PySem.W.clsIn at hc
  split at hc
  · rename_i ho
    cases (X _ _ ho).symm.trans htp
  · cases hc
 ca:=fun {prog w A E Q s} X ⟨o,e,c⟩ k=>by
  obtain ⟨h,g,d,t,os⟩:=s
  exact mB Z X e c k
noncomputable def clsV:V→Value
 | .ty n=> .type n
 | .ref a=> .ref a
 |_=> .none
def gz:V→Bool
 | .ty _=>true
 | .ref _=>true
 |_=>false
theorem io {x:V} {u:Value} (r:RelV x u) (h:gz x=true):u=clsV x:=by
 cases x with
 |ty n=>exact r
 |ref a=>exact r
 |_=>cases h
theorem fJ:∀ {xs:List V} {us:List Value},Vals xs us→xs.all gz=true→us=xs.map clsV
 |_,_, .nil,_=>rfl
 |_,_, .cons r t,h=>by
  rw [List.all_cons,v4] at h
  rw [io r h.1,fJ t h.2,uZ]
inductive TyX (K:PySem.W.Frag) (H:Hp):V→Value→Prop where
 |of {x:V} {t:Value} (h:TyOf K H x t):TyX K H x t
 |exc {a C:Addr} (e:H a=some (Cau C a)) (Z:XIs K C):TyX K H (.ref a) (.ref C)
section
variable {X:Cx}
theorem TyX.kit {pins:List (Addr×Obj)} {σ:St} {H:Hp} {s:Shared} {x:V} {u t:Value} (I:Inv X pins σ H s) (rx:RelV x u) (ty:TyX X.K H x t):∃Hh,PySem.W.KitX X.K u t Hh∧Hh s.heap∧u≠ .builtin "__main__.__loader__#opaque":=by
 cases ty with
 |of ty=>
  cases ty with
  |non=>cases (show u=Value.none from rx);exact ⟨_,PySem.W.kitx_none,True.intro,fun z=>nomatch z⟩
  |bl y=>cases (show u=Value.bool y from rx);exact ⟨_,PySem.W.kitx_bool,True.intro,fun z=>nomatch z⟩
  |int i=>obtain ⟨t,q⟩:=(show∃t,u=Value.int i t from rx);cases q;exact ⟨_,PySem.W.kitx_int,True.intro,fun z=>nomatch z⟩
  |str y=>obtain ⟨t,q⟩:=(show∃t,u=Value.str y t from rx);cases q;exact ⟨_,PySem.W.kitx_str,True.intro,fun z=>nomatch z⟩
  |flt y=>obtain ⟨t,q⟩:=(show∃t,u=Value.float y t from rx);cases q;exact ⟨_,PySem.W.kitx_float,True.intro,fun z=>nomatch z⟩
  | @lst a xs ea=>
   cases (show u=Value.ref a from rx)
   obtain ⟨_,_,n,_,h1⟩:=(show ObjOk X.prog X.w H s.heap a (.lst xs) from I.hok a _ ea)
   exact ⟨_,PySem.W.kitx_list,⟨_,h1,rfl⟩,fun z=>nomatch z⟩
  | @frz a ob xs ea=>
   cases (show u=Value.ref a from rx)
   obtain ⟨_,_,_,n,_,h1⟩:=(show ObjOk X.prog X.w H s.heap a (.frz ob (.lst xs)) from I.hok a _ ea)
   exact ⟨_,PySem.W.kitx_list,⟨_,h1,rfl⟩,fun z=>nomatch z⟩
  | @tup a xs ea=>
   cases (show u=Value.ref a from rx)
   obtain ⟨_,_,_,o,h1,h2,_⟩:=(show ObjOk X.prog X.w H s.heap a (.tup xs) from I.hok a _ ea)
   exact ⟨_,PySem.W.kitx_tuple,⟨o,h1,h2⟩,fun z=>nomatch z⟩
  | @dK a kvs ea=>
   cases (show u=Value.ref a from rx)
   obtain ⟨_,_,vs,_,o,es,ep,h1,h2,_⟩:=(show ObjOk X.prog X.w H s.heap a (.dK kvs) from I.hok a _ ea)
   exact ⟨_,PySem.W.kitx_dict,⟨o,h1,h2.1⟩,fun z=>nomatch z⟩
  | @dT a kvs ea=>
   cases (show u=Value.ref a from rx)
   obtain ⟨_,_,xs,_,o,es,ep,h1,h2,_⟩:=(show ObjOk X.prog X.w H s.heap a (.dT kvs) from I.hok a _ ea)
   exact ⟨_,PySem.W.kitx_dict,⟨o,h1,h2.1⟩,fun z=>nomatch z⟩
  | @ins a C dx fs ea cl ha hn htk hm=>
   cases (show u=Value.ref a from rx)
   obtain ⟨mA,O,_⟩:=qN I.hok ea
   obtain ⟨od,J,_⟩:=O.look
   exact ⟨_,PySem.W.kitx_own (cl.get _) cl.hd ha hn htk hm,J,fun z=>nomatch z⟩
 | @exc a C e Z=>
  cases (show u=Value.ref a from rx)
  obtain ⟨h1,_⟩:=(show ObjOk X.prog X.w H s.heap a (Cau C a) from I.hok a _ e)
  exact ⟨_,fj Z,h1,fun z=>nomatch z⟩
def rIsi (K:PySem.W.Frag):List V→Hp→VK→Prop:=fun xs H Q=>∃x c t b,xs= [x,c]∧TyX K H x t∧
 ((gz c=true∧PySem.W.kitOne K t (clsV c)=some b)∨(∃p ys,c= .ref p∧H p=some (.tup ys)∧ys.all gz=true∧PySem.W.kitAny K t (ys.map clsV)=some b))∧Q (.bl b) H
theorem jb:cV X (.builtin "isinstance") (rIsi X.K):=by
 intro pins s σ H xs us Q I r h
 obtain ⟨x,c,t,b,e,ty,h,q⟩:=h
 subst e
 cases r with
 | @cons _ u _ _ rx r=>
  cases r with
  | @cons _ v _ _ rc r=>
   cases r
   obtain ⟨Hh,Z,hp,hne⟩:=ty.kit I rx
   rcases h with ⟨hc,hk⟩|⟨p,ys,e,hH,hall,hk⟩
   · cases io rc hc
     exact PySem.W.kia_one Z I.kIn hp hk hne fun tk=>⟨.bl b,H,I.tok tk,rfl,q⟩
   · subst e
     cases (show v=Value.ref p from rc)
     obtain ⟨_,its,rv,⟨oc,od,oda,osl⟩,h1,h2,n,h3⟩:=(show ObjOk X.prog X.w H s.heap p (.tup ys) from I.hok p _ hH)
     dsimp only at h2 h3
     subst h2 h3
     cases fJ rv hall
     exact PySem.W.kia_tup Z I.kIn hp h1 hk hne fun tk=>⟨.bl b,H,I.tok tk,rfl,q⟩
end
open PySem PySem.Spec PyProof.Rows
abbrev TSX:=Ends→XK→St→Hp→Prop
def PSX (X:Cx) (CX:CXT) (body:List Stmt) (t:TSX):Prop:=
 ∀(pins:List (Addr×Obj)) (s:Shared) (σ:St) (H:Hp) (D:Ends) (E:XK),Inv X pins σ H s→t D E σ H→
  wpAny (model X.prog X.w) X.A (execs body X.env) (SP X pins D) (fun e s'=>∃H0 s0,Inv X pins σ H0 s0∧CX X.stack H0 s0 E e s') s
section
variable {X:Cx} {CX:CXT} {k:Nat} {f:Addr} {fd:FuncData} {ps:List Str} {sp:Sp} {x:Str} {p pos epos:Pos} {e:Expr} {es:List Expr} {t:TA}
end
abbrev Cx.caught (X:Cx) (a:Addr):Cx:= {X with A:=X.A.mark (some (.ref a)),calm:=false,xe:=fun _ _=>False}
section
variable {X:Cx} {pins:List (Addr×Obj)} {σ:St} {H:Hp} {s:Shared} {a:Addr}
theorem Inv.caught (I:Inv X pins σ H s) (a:Addr):Inv (X.caught a) pins σ H s:=
 ⟨⟨I.ok.mod,I.ok.kind,I.ok.glob,I.ok.blt,I.ok.above,I.ok.inj,I.ok.has,I.ok.cab,(fun z=>by cases z),I.ok.frames,I.ok.stk,I.ok.exf,I.ok.bs,I.ok.bsz,I.ok.noex,I.ok.exfs,I.ok.funs,I.ok.frf⟩,I.os,I.bare,I.base,I.loc,I.cell,I.free,I.freeC,I.pin,I.hok,I.len⟩
theorem Inv.uncaught (I:Inv (X.caught a) pins σ H s) (ok:X.Ok):Inv X pins σ H s:=⟨ok,I.os,I.bare,I.base,I.loc,I.cell,I.free,I.freeC,I.pin,I.hok,I.len⟩
theorem Inv.flown {H0 H':Hp} {s0 s1:Shared} {B h6:Heap} {C a:Addr} {a0:Value} (I0:Inv X pins σ H0 s0) (os:s1.os=s0.os) (bare:AllBare s1.gens) (nA:s0.heap.get? a=none) (nH:H' a=none) (okB:HOk X.prog X.w H' B)
 (kB:∀b o,s0.heap.get? b=some o→Idl (H0 b)→b∉frs X.stack→B.get? b=some o) (slB:∀b o,s0.heap.get? b=some o→H0 b=none→b∈frs X.stack→∃sl,s1.heap.get? b=some {o with slots:=sl})
 (frB:∀b o,s0.heap.get? b=some o→H0 b=none→H' b=none) (thB:∀b o,s0.heap.get? b=some o→b∉frs X.stack→∃o',B.get? b=some o')
 (tu:∀b xs,H0 b=some (.tup xs)→H' b=some (.tup xs)) (fz:∀b o u,H0 b=some (.frz o u)→H' b=some (.frz o u)) (tb:∀b ps,H0 b=some (.tbl ps)→∃more,H' b=some (.tbl (ps++more)))
 (fl:Heap.FlyingW B X.stack a (.ref C) a0 s1.heap) (fl6:Heap.FlyingW B X.stack a (.ref C) a0 h6) (sm:s1.heap.UpToSlots h6):Inv X pins σ (upd H' a (Cau C a)) {s1 with heap:=h6}:=by
 have ne:∀b o,s0.heap.get? b=some o→b≠a:=fun b o q z=>by
  rw [z,nA] at q
  cases q
 have ne':∀b o,H' b=some o→b≠a:=fun b o q z=>by
  rw [z,nH] at q
  cases q
 refine I0.call' (s':= {s1 with heap:=h6}) (ch:= []) os ⟨fun b o q n hb _=> ?_,fun b o q n hb _=> ?_,fun b o q n _=> ?_,fun b o q _=> ?_,fun b xs q=> ?_,fun b o u q=> ?_,fun b ps q=> ?_⟩ ?_ bare (fun b z=>absurd z (by simp))
 · exact fl6.1 b o (kB b o q n hb)
 · obtain ⟨sl,e1⟩:=slB b o q n hb
   obtain ⟨_,o1,e2,d2⟩:=fl.2.2.1.mem hb
   rw [e1] at e2
   cases e2
   obtain ⟨sl',e3⟩:=sm b _ e1 d2
   exact ⟨sl',e3⟩
 · rw [aj (ne b o q)]
   exact frB b o q n
 · by_cases hb:b∈frs X.stack
   · obtain ⟨_,o1,e2,_⟩:=fl6.2.2.1.mem hb
     exact ⟨o1,e2⟩
   · obtain ⟨o',e1⟩:=thB b o q hb
     exact ⟨o',fl6.1 b o' e1⟩
 · have:=tu b xs q
   rw [aj (ne' _ _ this)]
   exact this
 · have:=fz b o u q
   rw [aj (ne' _ _ this)]
   exact this
 · obtain ⟨more,this⟩:=tb b ps q
   refine ⟨more,?_⟩
   rw [aj (ne' _ _ this)]
   exact this
 · have ok6:HOk X.prog X.w H' h6:=okB.kept fl6.1
   intro b o q
   by_cases hb:b=a
   · subst hb
     rw [aa] at q
     cases q
     obtain ⟨ob,e1,c1⟩:=fl6.there
     exact tZ e1 c1
   · rw [aj hb] at q
     exact (ok6 b o q).stay (fun _ _ _ r=>r) (fun c r=>by rw [aj (ne' _ _ r)];exact r) fun c xs r=>by rw [aj (ne' _ _ r)];exact r
end
section
variable {X:Cx} {body suite:List Stmt} {b0:Stmt} {tb:TSX} {ts:TS} {i:Nat} {n cx:Str} {np hpos pos:Pos} {W:Addr}
end
open PySem PySem.Spec PyProof.Rows
section
variable {X:Cx}
def Big (i:Int):Prop:=i.natAbs < 2^8000
theorem ia:OpR X (binaryOp .Mult) (rI (fun i j=>Big i∧Big j) fun i j=> .int (i*j)):=opI fun _ _ _ _ _ _ _ hc q=>
 PyProof.Rows.mul_int q (IntMulOk.of_le (m:=8000) (n:=8000) (intBits_le_iff.mpr hc.1) (intBits_le_iff.mpr hc.2) (by decide))
theorem jM {i j:Int} (h:Big j):Builtin.divisionGoesByPylong i j=false:=by
 refine PyProof.noPylong_of_log2 ?_
 by_cases z:j.natAbs=0
 · rw [z];decide
 · exact Nat.lt_trans ((Nat.log2_lt z).mpr h) (by decide)
theorem ou:OpR X (binaryOp .FloorDiv) (rI (fun _ j=>0 < j∧Big j) fun i j=> .int (i / j)):=opI fun i j _ _ _ _ _ hc q=>by
 have h1:(0:Int) < j:=hc.1
 exact floordiv_int (by omega) (by rw [vM i (by omega)];exact q) (.inl (jM hc.2))
theorem iL:OpR X (binaryOp .FloorDiv) (rI (fun _ j=>j≠0∧Big j) fun i j=> .int (i.fdiv j)):=opI fun _ _ _ _ _ _ _ hc q=>floordiv_int hc.1 q (.inl (jM hc.2))
end
theorem Fun.okX {P:Program} {w:World} {K:PySem.W.Frag} {mg:Str→Option Value} {base:Heap} {CX:CXT} {x qual:Str} {st:Stmt} {f:Addr} {fd:FuncData} {N ps:List Str} {k:Nat} {sp:Sp} (F:Fun K x qual st f fd) (S:aN N ps (af st))
 (len:∀vs H Q E,sp vs H Q E→vs.length=ps.length)
 (hbody:∀(cdv:Value) (A:Around) (outer:List Env) (s:Shared) (H:Hp) (vs:List V) (Q:VK) (E:XK),Room k (A.deeper (envOfC qual (af st) s.heap.objs.size f cdv))→sp vs H Q E→
  ∃t,PSs (cxOf CX P w K mg base N qual (af st) f cdv A outer s H E) (aB st) t∧t {nx:=fun _ H'=>Q .non H',rt:=Q} (dk N vs) H):FnOk P w K mg base CX (k+1) f fd ps sp:=by
 obtain ⟨oc,od,kV,doc,pm,an,cdv,ct,osl,rfl,lk,hcd⟩:=F.ex
 exact rT lk hcd S len fun A outer s H vs Q E hr hsp=>hbody cdv A outer s H vs Q E hr hsp
theorem aQ:bootBuiltins "isinstance"=some (.builtin "isinstance"):=by decide +kernel
theorem jd:bootBuiltins "abs"=some (.builtin "abs"):=by decide +kernel
theorem r8:bootBuiltins "ValueError"=some (.type "ValueError"):=by decide +kernel
open PySem PySem.Spec PyProof.Rows
section
variable {X:Cx}
end
section
variable {X:Cx} {CX:CXT} {k:Nat} {f:Addr} {fd:FuncData} {ps:List Str} {sp:Sp} {x:Str} {p pos rpos:Pos} {e:Expr} {es:List Expr} {t:TA}
end
section
variable {X:Cx} {body suite:List Stmt} {b0:Stmt} {tb:TSX} {ts:TS} {cx:Str} {np hpos pos:Pos} {W:Addr}
end
end L2
namespace Tre
open PySem PySem.Spec PyProof.Rows L2
inductive Tr where
 |non
 |bl (b:Bool)
 |int (i:Int)
 |str (x:Str)
 |tup (ts:List Tr)
 |ls
mutual
noncomputable def Tr.depth:Tr→Nat
 | .tup ts=>Trs.depth ts+1
 |_=>0
noncomputable def Trs.depth:List Tr→Nat
 | []=>0
 |t::ts=>max (Tr.depth t) (Trs.depth ts)
end
mutual
def Tr.pure:Tr→Prop
 | .tup ts=>Trs.pure ts
 | .ls=>False
 |_=>True
def Trs.pure:List Tr→Prop
 | []=>True
 |t::ts=>Tr.pure t∧Trs.pure ts
end
mutual
def TrAt (H:Hp):V→Tr→Prop
 |v, .non=>v= .non
 |v, .bl b=>v= .bl b
 |v, .int i=>v= .int i
 |v, .str x=>v= .str x
 |v, .tup ts=>∃r vs,v= .ref r∧H r=some (.tup vs)∧TrsAt H vs ts
 |v, .ls=>∃r xs,v= .ref r∧H r=some (.lst xs)
def TrsAt (H:Hp):List V→List Tr→Prop
 |vs,[]=>vs= []
 |vs,t::ts=>∃v r,vs=v::r∧TrAt H v t∧TrsAt H r ts
end
structure Kd (H H':Hp):Prop where
 tup:∀a xs,H a=some (.tup xs)→H' a=some (.tup xs)
 lst:∀a xs,H a=some (.lst xs)→∃ys,H' a=some (.lst ys)
theorem Kd.trans {H H1 H2:Hp} (a:Kd H H1) (b:Kd H1 H2):Kd H H2:=⟨fun x o e=>b.tup x o (a.tup x o e),fun x o e=>by
 obtain ⟨ys,e1⟩:=a.lst x o e
 exact b.lst x ys e1⟩
theorem Kd.of_same {H H':Hp} (s:Same H H'):Kd H H':=⟨fun a xs e=>s a _ e,fun a xs e=>⟨xs,s a _ e⟩⟩
theorem Kd.upd {H:Hp} {p:Addr} {xs ys:List V} (h:H p=some (.lst xs)):Kd H (upd H p (.lst ys)):=by
 refine ⟨fun a zs e=> ?_,fun a zs e=> ?_⟩
 · rw [aj]
   · exact e
   · intro z
     rw [z,h] at e
     cases e
 · by_cases z:a=p
   · subst z
     exact ⟨ys,aa⟩
   · exact ⟨zs,(aj z).trans e⟩
mutual
theorem TrAt.mono {H H':Hp} (k:Kd H H'):∀ {v:V} {t:Tr},TrAt H v t→TrAt H' v t
 |v, .non,h=>by unfold TrAt at h ⊢;exact h
 |v, .bl b,h=>by unfold TrAt at h ⊢;exact h
 |v, .int i,h=>by unfold TrAt at h ⊢;exact h
 |v, .str x,h=>by unfold TrAt at h ⊢;exact h
 |v, .ls,h=>by
  unfold TrAt at h ⊢
  obtain ⟨r,xs,e,h⟩:=h
  obtain ⟨ys,h'⟩:=k.lst r xs h
  exact ⟨r,ys,e,h'⟩
 |v, .tup ts,h=>by
  unfold TrAt at h ⊢
  obtain ⟨r,vs,e,h1,h2⟩:=h
  exact ⟨r,vs,e,k.tup _ _ h1,TrsAt.mono k h2⟩
theorem TrsAt.mono {H H':Hp} (k:Kd H H'):∀ {vs:List V} {ts:List Tr},TrsAt H vs ts→TrsAt H' vs ts
 |vs,[],h=>by unfold TrsAt at h ⊢;exact h
 |vs,t::ts,h=>by
  unfold TrsAt at h ⊢
  obtain ⟨v,r,e,h1,h2⟩:=h
  exact ⟨v,r,e,TrAt.mono k h1,TrsAt.mono k h2⟩
end
theorem TrsAt.nil {H:Hp}:TrsAt H [] []:=by unfold TrsAt;rfl
theorem TrsAt.cons {H:Hp} {v:V} {t:Tr} {vs:List V} {ts:List Tr} (h:TrAt H v t) (r:TrsAt H vs ts):TrsAt H (v::vs) (t::ts):=by
 unfold TrsAt
 exact ⟨v,vs,rfl,h,r⟩
theorem TrsAt.inv {H:Hp} {t:Tr} {vs:List V} {ts:List Tr} (h:TrsAt H vs (t::ts)):∃v r,vs=v::r∧TrAt H v t∧TrsAt H r ts:=by
 unfold TrsAt at h
 exact h
theorem TrsAt.len {H:Hp}:∀ {vs:List V} {ts:List Tr},TrsAt H vs ts→vs.length=ts.length
 |vs,[],h=>by
  unfold TrsAt at h
  rw [h]
  rfl
 |vs,t::ts,h=>by
  obtain ⟨v,r,e,_,h2⟩:=h.inv
  rw [e,uU,uU,h2.len]
theorem TrsAt.app {H:Hp} {ws:List V} {us:List Tr} (b:TrsAt H ws us):∀ {vs:List V} {ts:List Tr},TrsAt H vs ts→TrsAt H (vs++ws) (ts++us)
 |vs,[],h=>by
  unfold TrsAt at h
  subst h
  exact b
 |vs,t::ts,h=>by
  obtain ⟨v,r,e,h1,h2⟩:=h.inv
  subst e
  exact .cons h1 (TrsAt.app b h2)
theorem TrsAt.get {H:Hp}:∀ {vs:List V} {ts:List Tr} {i:Nat} {t:Tr},TrsAt H vs ts→ts[i]?=some t→∃v,vs[i]?=some v∧TrAt H v t
 |vs,[],i,t,_,e=>by simp at e
 |vs,a::ts,0,t,h,e=>by
  obtain ⟨v,r,rfl,h1,h2⟩:=h.inv
  simp at e
  subst e
  exact ⟨v,rfl,h1⟩
 |vs,a::ts,i+1,t,h,e=>by
  obtain ⟨v,r,rfl,h1,h2⟩:=h.inv
  obtain ⟨u,e1,e2⟩:=h2.get (i:=i) (by simpa using e)
  exact ⟨u,by simpa using e1,e2⟩
theorem TrsAt.get' {H:Hp} {vs:List V} {ts:List Tr} {i:Nat} {v:V} (h:TrsAt H vs ts) (e:vs[i]?=some v):∃t,ts[i]?=some t∧TrAt H v t:=by
 have hl:=h.len
 have hi:i < vs.length:=(vg.mp e).1
 obtain ⟨u,e1,e2⟩:=h.get (i:=i) (t:=ts[i]'(by omega)) (uV _)
 rw [e] at e1
 cases e1
 exact ⟨_,uV _,e2⟩
mutual
theorem TrAt.det {H:Hp}:∀ {v:V} {t u:Tr},TrAt H v t→TrAt H v u→t=u
 |v, .non,u,h1,h2=>by
  unfold TrAt at h1
  subst h1
  cases u<;>unfold TrAt at h2<;>first|rfl|(cases h2;done)|(obtain ⟨_,_,e,_⟩:=h2;cases e)
 |v, .bl b,u,h1,h2=>by
  unfold TrAt at h1
  subst h1
  cases u<;>unfold TrAt at h2<;>first|(cases h2;rfl)|(cases h2;done)|(obtain ⟨_,_,e,_⟩:=h2;cases e)
 |v, .int b,u,h1,h2=>by
  unfold TrAt at h1
  subst h1
  cases u<;>unfold TrAt at h2<;>first|(cases h2;rfl)|(cases h2;done)|(obtain ⟨_,_,e,_⟩:=h2;cases e)
 |v, .str b,u,h1,h2=>by
  unfold TrAt at h1
  subst h1
  cases u<;>unfold TrAt at h2<;>first|(cases h2;rfl)|(cases h2;done)|(obtain ⟨_,_,e,_⟩:=h2;cases e)
 |v, .ls,u,h1,h2=>by
  unfold TrAt at h1
  obtain ⟨r,xs,rfl,h1⟩:=h1
  cases u<;>unfold TrAt at h2<;>first|rfl|(cases h2;done)|(obtain ⟨_,_,e,h2,_⟩:=h2;cases e;rw [h1] at h2;cases h2)
 |v, .tup ts, .tup us,h1,h2=>by
  unfold TrAt at h1 h2
  obtain ⟨r,vs,rfl,h1,h3⟩:=h1
  obtain ⟨r',vs',e,h2,h4⟩:=h2
  cases e
  rw [h1] at h2
  cases h2
  rw [TrsAt.det h3 h4]
 |v, .tup ts, .non,h1,h2=>by unfold TrAt at h1 h2;obtain ⟨_,_,e,_⟩:=h1;rw [h2] at e;cases e
 |v, .tup ts, .bl _,h1,h2=>by unfold TrAt at h1 h2;obtain ⟨_,_,e,_⟩:=h1;rw [h2] at e;cases e
 |v, .tup ts, .int _,h1,h2=>by unfold TrAt at h1 h2;obtain ⟨_,_,e,_⟩:=h1;rw [h2] at e;cases e
 |v, .tup ts, .str _,h1,h2=>by unfold TrAt at h1 h2;obtain ⟨_,_,e,_⟩:=h1;rw [h2] at e;cases e
 |v, .tup ts, .ls,h1,h2=>by
  unfold TrAt at h1 h2
  obtain ⟨r,vs,rfl,h1,_⟩:=h1
  obtain ⟨r',xs,e,h2⟩:=h2
  cases e
  rw [h1] at h2
  cases h2
theorem TrsAt.det {H:Hp}:∀ {vs:List V} {ts us:List Tr},TrsAt H vs ts→TrsAt H vs us→ts=us
 |vs,[],[],_,_=>rfl
 |vs,[],u::us,h1,h2=>by
  have a:=h1.len
  have b:=h2.len
  rw [a] at b
  simp at b
 |vs,t::ts,[],h1,h2=>by
  have a:=h1.len
  have b:=h2.len
  rw [a] at b
  simp at b
 |vs,t::ts,u::us,h1,h2=>by
  obtain ⟨v,r,rfl,h3,h4⟩:=h1.inv
  obtain ⟨v',r',e,h5,h6⟩:=h2.inv
  cases e
  rw [TrAt.det h3 h5,TrsAt.det h4 h6]
end
mutual
noncomputable def eqT:Tr→Tr→Bool
 | .non, .non=>true
 | .bl a, .bl b=>a==b
 | .bl a, .int i=>(if a then 1 else 0)==i
 | .int i, .bl b=>i==(if b then 1 else 0)
 | .int i, .int j=>i==j
 | .str x, .str y=>x==y
 | .tup ts, .tup us=>eqTs ts us
 | .ls, .ls=>true
 |_,_=>false
noncomputable def eqTs:List Tr→List Tr→Bool
 | [],[]=>true
 |t::ts,u::us=>eqT t u&&eqTs ts us
 |_,_=>false
end
mutual
theorem fw:∀t:Tr,eqT t t=true
 | .non=>by simp [eqT]
 | .bl _=>by simp [eqT]
 | .int _=>by simp [eqT]
 | .str _=>by simp [eqT]
 | .ls=>by simp [eqT]
 | .tup ts=>by simp only [eqT];exact eqTs_refl ts
theorem eqTs_refl:∀ts:List Tr,eqTs ts ts=true
 | []=>by simp [eqTs]
 |t::ts=>by simp [eqTs,fw t,eqTs_refl ts]
end
noncomputable def eqJ (ts us:List Tr) (j:Nat):Bool:=match ts[j]?,us[j]? with
 |some t,some u=>eqT t u
 |_,_=>true
theorem ph {ts us:List Tr} {j:Nat} {t u:Tr} (h1:ts[j]?=some t) (h2:us[j]?=some u):eqJ ts us j=eqT t u:=by
 unfold eqJ
 rw [h1,h2]
theorem dH:∀(ts us:List Tr),eqTs ts us=((List.range (min ts.length us.length)).all (eqJ ts us)&&ts.length==us.length)
 | [],[]=>by simp [eqTs]
 | [],u::us=>by simp [eqTs]
 |t::ts,[]=>by simp [eqTs]
 |t::ts,u::us=>by
  simp only [eqTs,uU]
  rw [dH ts us,show min (ts.length+1) (us.length+1)=min ts.length us.length+1 by omega,List.range_succ_eq_map,List.all_cons,List.all_map]
  have e:(eqJ (t::ts) (u::us)) ∘ Nat.succ=eqJ ts us:=by
   funext j
   simp [eqJ]
  rw [e]
  simp [eqJ,Bool.and_assoc]
open PySem PySem.Spec PyProof.Rows L2
section
variable {X:Cx} {pins:List (Addr×Obj)} {σ:L2.St} {H:Hp} {s:Shared} {A:Around}
theorem lN {a b:Addr} {xs ys:List V} (I:Inv X pins σ H s) (ha:H a=some (.tup xs)) (hb:H b=some (.tup ys)) (hu:A.units < cLine) (e:Nat→Bool) (hne:a≠b)
 (he:∀j x y u v,xs[j]?=some x→ys[j]?=some y→RelV x u→RelV y v→SeqAt.EqAt A.in1 s u v (e j)):
 SeqAt.EqAt A s (.ref a) (.ref b) ((List.range (min xs.length ys.length)).all e&&xs.length==ys.length):=by
 obtain ⟨us,r1,p1,_⟩:=I.tuple (SqT.of ha)
 obtain ⟨ws,r2,p2,_⟩:=I.tuple (SqT.of hb)
 have l1:=r1.length
 have l2:=r2.length
 have:=SeqAt.RcAt.tuples (A:=A) (e:=e) (show s.heap.IsTuple a us.toArray from p1) (show s.heap.IsTuple b ws.toArray from p2) hu fun j h1 h2=>by
  have h1':j < us.length:=by simpa using h1
  have h2':j < ws.length:=by simpa using h2
  obtain ⟨u,e1,q1⟩:=r1.get (i:=j) (x:=xs[j]'(by omega)) (uV _)
  obtain ⟨v,e2,q2⟩:=r2.get (i:=j) (x:=ys[j]'(by omega)) (uV _)
  have z1:us.toArray[j]=u:=by rw [List.getElem_toArray];rw [uV h1'] at e1;exact vk e1
  have z2:ws.toArray[j]=v:=by rw [List.getElem_toArray];rw [uV h2'] at e2;exact vk e2
  rw [z1,z2]
  exact he j _ _ u v (uV _) (uV _) q1 q2
 rw [uY,uY,←l1,←l2] at this
 exact SeqAt.EqAt.of_refs hne this
theorem de:∀ {ts:List Tr} {t:Tr},t∈ts→t.depth≤Trs.depth ts
 |a::ts,t,h=>by
  unfold Trs.depth
  rcases vd.mp h with rfl|h
  · omega
  · have:=de h
    omega
theorem cP:∀ {ts:List Tr} {t:Tr},Trs.pure ts→t∈ts→t.pure
 |a::ts,t,p,h=>by
  unfold Trs.pure at p
  rcases vd.mp h with rfl|h
  · exact p.1
  · exact cP p.2 h
theorem ck {r:Addr} {vs:List V} (I:Inv X pins σ H s) (h:H r=some (.tup vs)):∃its:Array Value,s.heap.IsTuple r its:=by
 obtain ⟨us,_,p,_⟩:=I.tuple (SqT.of h)
 exact ⟨_,p⟩
theorem cm {r:Addr} {vs:List V} (I:Inv X pins σ H s) (h:H r=some (.lst vs)):∃its:Array Value,s.heap.IsList r its:=by
 obtain ⟨us,_,p,_⟩:=I.list (SqL.of h)
 exact ⟨_,p.isList⟩
theorem jY (I:Inv X pins σ H s) {A:Around} {t u:Tr} {v w:V} {a b:Value} (hd:∀ts,t≠ .tup ts) (hp:t.pure∨u.pure) (h1:TrAt H v t) (h2:TrAt H w u) (r1:RelV v a) (r2:RelV w b) (hu0:A.units < cLine):SeqAt.EqAt A s a b (eqT t u):=by
 cases t with
 |tup ts=>exact (hd ts rfl).elim
 |non=>
  unfold TrAt at h1
  subst h1
  cases (show a=Value.none from r1)
  cases u with
  |non=>unfold TrAt at h2;subst h2;cases (show b=Value.none from r2);simp only [eqT];exact SeqAt.EqAt.same _
  |bl c=>unfold TrAt at h2;subst h2;cases (show b=Value.bool c from r2);simp only [eqT];exact SeqAt.EqAt.none_bool c
  |int c=>unfold TrAt at h2;subst h2;obtain ⟨t',rfl⟩:=r2;simp only [eqT];exact SeqAt.EqAt.none_int c t'
  |str c=>unfold TrAt at h2;subst h2;obtain ⟨t',rfl⟩:=r2;simp only [eqT];exact SeqAt.EqAt.none_str c t'
  |tup us=>unfold TrAt at h2;obtain ⟨r,vs,rfl,g1,_⟩:=h2;cases r2;obtain ⟨its,p⟩:=ck I g1;simp only [eqT];exact SeqAt.EqAt.none_tuple p hu0
  |ls=>unfold TrAt at h2;obtain ⟨r,vs,rfl,g1⟩:=h2;cases r2;obtain ⟨its,p⟩:=cm I g1;simp only [eqT];exact SeqAt.EqAt.none_list p hu0
 |bl d=>
  unfold TrAt at h1
  subst h1
  cases (show a=Value.bool d from r1)
  cases u with
  |non=>unfold TrAt at h2;subst h2;cases (show b=Value.none from r2);simp only [eqT];exact SeqAt.EqAt.bool_none d
  |bl c=>unfold TrAt at h2;subst h2;cases (show b=Value.bool c from r2);simp only [eqT];exact SeqAt.EqAt.bool_bool d c
  |int c=>unfold TrAt at h2;subst h2;obtain ⟨t',rfl⟩:=r2;simp only [eqT];exact SeqAt.EqAt.bool_int d c t'
  |str c=>unfold TrAt at h2;subst h2;obtain ⟨t',rfl⟩:=r2;simp only [eqT];exact SeqAt.EqAt.bool_str d c t'
  |tup us=>unfold TrAt at h2;obtain ⟨r,vs,rfl,g1,_⟩:=h2;cases r2;obtain ⟨its,p⟩:=ck I g1;simp only [eqT];exact SeqAt.EqAt.bool_tuple d p hu0
  |ls=>unfold TrAt at h2;obtain ⟨r,vs,rfl,g1⟩:=h2;cases r2;obtain ⟨its,p⟩:=cm I g1;simp only [eqT];exact SeqAt.EqAt.bool_list d p hu0
 |int d=>
  unfold TrAt at h1
  subst h1
  obtain ⟨t0,rfl⟩:=r1
  cases u with
  |non=>unfold TrAt at h2;subst h2;cases (show b=Value.none from r2);simp only [eqT];exact SeqAt.EqAt.int_none d t0
  |bl c=>unfold TrAt at h2;subst h2;cases (show b=Value.bool c from r2);simp only [eqT];exact SeqAt.EqAt.int_bool d t0 c
  |int c=>unfold TrAt at h2;subst h2;obtain ⟨t',rfl⟩:=r2;simp only [eqT];exact SeqAt.EqAt.int_int d t0 c t'
  |str c=>unfold TrAt at h2;subst h2;obtain ⟨t',rfl⟩:=r2;simp only [eqT];exact SeqAt.EqAt.int_str d t0 c t'
  |tup us=>unfold TrAt at h2;obtain ⟨r,vs,rfl,g1,_⟩:=h2;cases r2;obtain ⟨its,p⟩:=ck I g1;simp only [eqT];exact SeqAt.EqAt.int_tuple d t0 p hu0
  |ls=>unfold TrAt at h2;obtain ⟨r,vs,rfl,g1⟩:=h2;cases r2;obtain ⟨its,p⟩:=cm I g1;simp only [eqT];exact SeqAt.EqAt.int_list d t0 p hu0
 |str d=>
  unfold TrAt at h1
  subst h1
  obtain ⟨t0,rfl⟩:=r1
  cases u with
  |non=>unfold TrAt at h2;subst h2;cases (show b=Value.none from r2);simp only [eqT];exact SeqAt.EqAt.str_none d t0
  |bl c=>unfold TrAt at h2;subst h2;cases (show b=Value.bool c from r2);simp only [eqT];exact SeqAt.EqAt.str_bool d t0 c
  |int c=>unfold TrAt at h2;subst h2;obtain ⟨t',rfl⟩:=r2;simp only [eqT];exact SeqAt.EqAt.str_int d t0 c t'
  |str c=>unfold TrAt at h2;subst h2;obtain ⟨t',rfl⟩:=r2;simp only [eqT];exact SeqAt.EqAt.str_str d t0 c t'
  |tup us=>unfold TrAt at h2;obtain ⟨r,vs,rfl,g1,_⟩:=h2;cases r2;obtain ⟨its,p⟩:=ck I g1;simp only [eqT];exact SeqAt.EqAt.str_tuple d t0 p hu0
  |ls=>unfold TrAt at h2;obtain ⟨r,vs,rfl,g1⟩:=h2;cases r2;obtain ⟨its,p⟩:=cm I g1;simp only [eqT];exact SeqAt.EqAt.str_list d t0 p hu0
 |ls=>
  unfold TrAt at h1
  obtain ⟨r0,vs0,rfl,g0⟩:=h1
  cases r1
  obtain ⟨its0,p0⟩:=cm I g0
  cases u with
  |non=>unfold TrAt at h2;subst h2;cases (show b=Value.none from r2);simp only [eqT];exact SeqAt.EqAt.list_none p0 hu0
  |bl c=>unfold TrAt at h2;subst h2;cases (show b=Value.bool c from r2);simp only [eqT];exact SeqAt.EqAt.list_bool c p0 hu0
  |int c=>unfold TrAt at h2;subst h2;obtain ⟨t',rfl⟩:=r2;simp only [eqT];exact SeqAt.EqAt.list_int c t' p0 hu0
  |str c=>unfold TrAt at h2;subst h2;obtain ⟨t',rfl⟩:=r2;simp only [eqT];exact SeqAt.EqAt.list_str c t' p0 hu0
  |tup us=>unfold TrAt at h2;obtain ⟨r,vs,rfl,g1,_⟩:=h2;cases r2;obtain ⟨its,p⟩:=ck I g1;simp only [eqT];exact SeqAt.EqAt.list_tuple p0 p hu0
  |ls=>rcases hp with hp|hp<;>simp [Tr.pure] at hp
theorem gZ (I:Inv X pins σ H s):∀(n:Nat) {A:Around} {t u:Tr} {v w:V} {a b:Value},t.depth≤n→(t.pure∨u.pure)→TrAt H v t→TrAt H w u→RelV v a→RelV w b→A.units+n+1 < cLine→SeqAt.EqAt A s a b (eqT t u):=by
 intro n
 induction n with
 |zero=>
  intro A t u v w a b hd hp h1 h2 r1 r2 hu
  refine jY I (fun ts e=> ?_) hp h1 h2 r1 r2 (by omega)
  subst e
  simp [Tr.depth] at hd
 |succ n ih=>
  intro A t u v w a b hd hp h1 h2 r1 r2 hu
  have hu0:A.units < cLine:=by omega
  cases t with
  |tup ts=>
   have h1':=h1
   have h2':=h2
   unfold TrAt at h1
   obtain ⟨r0,vs0,rfl,g0,k0⟩:=h1
   cases r1
   obtain ⟨its0,p0⟩:=ck I g0
   unfold Tr.depth at hd
   cases u with
   |non=>unfold TrAt at h2;subst h2;cases (show b=Value.none from r2);simp only [eqT];exact SeqAt.EqAt.tuple_none p0 hu0
   |bl c=>unfold TrAt at h2;subst h2;cases (show b=Value.bool c from r2);simp only [eqT];exact SeqAt.EqAt.tuple_bool c p0 hu0
   |int c=>unfold TrAt at h2;subst h2;obtain ⟨t',rfl⟩:=r2;simp only [eqT];exact SeqAt.EqAt.tuple_int c t' p0 hu0
   |str c=>unfold TrAt at h2;subst h2;obtain ⟨t',rfl⟩:=r2;simp only [eqT];exact SeqAt.EqAt.tuple_str c t' p0 hu0
   |ls=>unfold TrAt at h2;obtain ⟨r,vs,rfl,g1⟩:=h2;cases r2;obtain ⟨its,p⟩:=cm I g1;simp only [eqT];exact SeqAt.EqAt.tuple_list p0 p hu0
   |tup us=>
    unfold TrAt at h2
    obtain ⟨r,vs,rfl,g1,k1⟩:=h2
    cases r2
    by_cases z:r0=r
    · subst z
      rw [←TrAt.det h1' h2',fw]
      exact SeqAt.EqAt.same _
    · have:=lN I g0 g1 hu0 (eqJ ts us) z fun j x y u' v' m1 m2 q1 q2=>by
       obtain ⟨t1,n1,a1⟩:=k0.get' m1
       obtain ⟨t2,n2,a2⟩:=k1.get' m2
       rw [ph n1 n2]
       refine ih (A:=A.in1) (by have:=de (vi n1);omega) ?_ a1 a2 q1 q2 (by show A.units+1+n+1 < cLine;omega)
       rcases hp with hp|hp
       · unfold Tr.pure at hp
         exact .inl (cP hp (vi n1))
       · unfold Tr.pure at hp
         exact .inr (cP hp (vi n2))
      rw [k0.len,k1.len,←dH] at this
      simp only [eqT]
      exact this
  |_=>exact jY I (fun ts e=>by cases e) hp h1 h2 r1 r2 hu0
end
open PySem PySem.Spec PyProof.Rows L2
open PySem.AutoSeq1 (wpAny_loadPart')
end Tre
namespace Tre
open PySem L2
inductive Co where
 |non
 |num (i:Int)
 |str (l:List Nat)
 |tup (cs:List Co)
 |ls
noncomputable def Co.kind:Co→Nat
 | .non=>0
 | .num _=>1
 | .str _=>2
 | .tup _=>3
 | .ls=>4
mutual
noncomputable def code:Tr→Co
 | .non=> .non
 | .bl b=> .num (if b then 1 else 0)
 | .int i=> .num i
 | .str x=> .str x.cps.toList
 | .tup ts=> .tup (codes ts)
 | .ls=> .ls
noncomputable def codes:List Tr→List Co
 | []=> []
 |t::ts=>code t::codes ts
end
mutual
def LtC:Co→Co→Prop
 | .num i, .num j=>i < j
 | .str l, .str m=>l < m
 | .tup cs, .tup ds=>LtCs cs ds
 |c,d=>c.kind < d.kind
def LtCs:List Co→List Co→Prop
 | [],[]=>False
 | [],_::_=>True
 |_::_,[]=>False
 |c::cs,d::ds=>LtC c d∨(c=d∧LtCs cs ds)
end
theorem iR {c d:Co} (h:LtC c d):c.kind≤d.kind:=by
 cases c<;>cases d<;>simp [LtC,Co.kind] at h ⊢
theorem iQ {c d:Co} (h:c.kind < d.kind):LtC c d:=by
 cases c<;>cases d<;>simp [LtC,Co.kind] at h ⊢
mutual
theorem ky:∀c:Co,¬LtC c c
 | .non=>by simp [LtC,Co.kind]
 | .num _=>by simp [LtC]
 | .str l=>by simp only [LtC];exact List.lt_irrefl l
 | .tup cs=>by simp only [LtC];exact ltCs_irr cs
 | .ls=>by simp [LtC,Co.kind]
theorem ltCs_irr:∀cs:List Co,¬LtCs cs cs
 | []=>by simp [LtCs]
 |c::cs=>by
  simp only [LtCs,not_or]
  exact ⟨ky c,fun h=>ltCs_irr cs h.2⟩
end
theorem ax {a b c:Co} (h1:LtC a b) (h2:LtC b c) (hk:a.kind < b.kind∨b.kind < c.kind):LtC a c:=by
 have k1:=iR h1
 have k2:=iR h2
 exact iQ (by omega)
mutual
theorem gr:∀ {a b c:Co},LtC a b→LtC b c→LtC a c
 | .num i, .num j, .num k,h1,h2=>by simp only [LtC] at *;omega
 | .str i, .str j, .str k,h1,h2=>by simp only [LtC] at *;exact List.lt_trans h1 h2
 | .tup i, .tup j, .tup k,h1,h2=>by simp only [LtC] at *;exact ltCs_trans h1 h2
 | .num _, .num _, .str _,h1,h2=>ax h1 h2 (by simp [LtC,Co.kind] at h1 h2 ⊢)
 | .num _, .num _, .tup _,h1,h2=>ax h1 h2 (by simp [LtC,Co.kind] at h1 h2 ⊢)
 | .num _, .num _, .non,h1,h2=>ax h1 h2 (by simp [LtC,Co.kind] at h1 h2 ⊢)
 | .num _, .num _, .ls,h1,h2=>ax h1 h2 (by simp [LtC,Co.kind] at h1 h2 ⊢)
 | .num _, .str _,_,h1,h2=>ax h1 h2 (by simp [LtC,Co.kind] at h1 h2 ⊢)
 | .num _, .tup _,_,h1,h2=>ax h1 h2 (by simp [LtC,Co.kind] at h1 h2 ⊢)
 | .num _, .non,_,h1,h2=>ax h1 h2 (by simp [LtC,Co.kind] at h1 h2 ⊢)
 | .num _, .ls,_,h1,h2=>ax h1 h2 (by simp [LtC,Co.kind] at h1 h2 ⊢)
 | .str _, .str _, .num _,h1,h2=>ax h1 h2 (by simp [LtC,Co.kind] at h1 h2 ⊢)
 | .str _, .str _, .tup _,h1,h2=>ax h1 h2 (by simp [LtC,Co.kind] at h1 h2 ⊢)
 | .str _, .str _, .non,h1,h2=>ax h1 h2 (by simp [LtC,Co.kind] at h1 h2 ⊢)
 | .str _, .str _, .ls,h1,h2=>ax h1 h2 (by simp [LtC,Co.kind] at h1 h2 ⊢)
 | .str _, .num _,_,h1,h2=>ax h1 h2 (by simp [LtC,Co.kind] at h1 h2 ⊢)
 | .str _, .tup _,_,h1,h2=>ax h1 h2 (by simp [LtC,Co.kind] at h1 h2 ⊢)
 | .str _, .non,_,h1,h2=>ax h1 h2 (by simp [LtC,Co.kind] at h1 h2 ⊢)
 | .str _, .ls,_,h1,h2=>ax h1 h2 (by simp [LtC,Co.kind] at h1 h2 ⊢)
 | .tup _, .tup _, .num _,h1,h2=>ax h1 h2 (by simp [LtC,Co.kind] at h1 h2 ⊢)
 | .tup _, .tup _, .str _,h1,h2=>ax h1 h2 (by simp [LtC,Co.kind] at h1 h2 ⊢)
 | .tup _, .tup _, .non,h1,h2=>ax h1 h2 (by simp [LtC,Co.kind] at h1 h2 ⊢)
 | .tup _, .tup _, .ls,h1,h2=>ax h1 h2 (by simp [LtC,Co.kind] at h1 h2 ⊢)
 | .tup _, .num _,_,h1,h2=>ax h1 h2 (by simp [LtC,Co.kind] at h1 h2 ⊢)
 | .tup _, .str _,_,h1,h2=>ax h1 h2 (by simp [LtC,Co.kind] at h1 h2 ⊢)
 | .tup _, .non,_,h1,h2=>ax h1 h2 (by simp [LtC,Co.kind] at h1 h2 ⊢)
 | .tup _, .ls,_,h1,h2=>ax h1 h2 (by simp [LtC,Co.kind] at h1 h2 ⊢)
 | .non,b,_,h1,h2=>ax h1 h2 (by cases b<;>simp [LtC,Co.kind] at h1 h2 ⊢)
 | .ls,b,_,h1,h2=>ax h1 h2 (by cases b<;>simp [LtC,Co.kind] at h1 h2 ⊢)
theorem ltCs_trans:∀ {a b c:List Co},LtCs a b→LtCs b c→LtCs a c
 | [],[],_,h1,_=>by simp [LtCs] at h1
 | [],_::_,[],_,h2=>by simp [LtCs] at h2
 | [],_::_,_::_,_,_=>by simp [LtCs]
 |_::_,[],_,h1,_=>by simp [LtCs] at h1
 |_::_,_::_,[],_,h2=>by simp [LtCs] at h2
 |x::a,y::b,z::c,h1,h2=>by
  simp only [LtCs] at*
  rcases h1 with h1|⟨e1,h1⟩
  · rcases h2 with h2|⟨e2,h2⟩
    · exact .inl (gr h1 h2)
    · exact .inl (e2▸h1)
  · rcases h2 with h2|⟨e2,h2⟩
    · exact .inl (e1▸h2)
    · exact .inr ⟨e1.trans e2,ltCs_trans h1 h2⟩
end
open Classical in
noncomputable def ltT (t u:Tr):Bool:=decide (LtC (code t) (code u))
open Classical in
theorem ltT_iff {t u:Tr}:(ltT t u=true)↔LtC (code t) (code u):=by
 unfold ltT
 exact decide_eq_true_iff
theorem oM {t u:Tr} (h:ltT t u=true):ltT u t=false:=by
 cases e:ltT u t with
 |false=>rfl
 |true=>exact absurd (gr (ltT_iff.mp h) (ltT_iff.mp e)) (ky _)
open PySem PySem.Spec PyProof.Rows L2
noncomputable def qs:List Tr→List Tr→List (Bool×Bool)
 |t::ts,u::us=>(eqT t u,ltT t u)::qs ts us
 | [],_=> []
 |_::_,[]=> []
section
variable {X:Cx} {pins:List (Addr×Obj)} {σ:L2.St} {H:Hp} {s:Shared}
end
end Tre
namespace Srt
open PySem PySem.W PySem.Calls PyProof.Rows
section
variable {prog:Program} {w:World} {A:Around} {E:Value→Shared→Prop} {s:Shared} {lt:Nat→Nat→Bool} {κ:SortKind}
end
end Srt
namespace Tre
open PySem PySem.Spec PyProof.Rows L2 Srt
theorem TrsAt.map {H:Hp} {vs:List V} {ts:List Tr} (h:TrsAt H vs ts):∀ {is:List Nat},(∀i∈is,i < ts.length)→TrsAt H (is.map fun i=>vs.getD i .non) (is.map fun i=>ts.getD i .non)
 | [],_=> .nil
 |i::is,hi=>by
  have h0:i < ts.length:=hi i v7
  have hl:=h.len
  obtain ⟨v,e1,e2⟩:=h.get (i:=i) (t:=ts[i]) (uV h0)
  have ev:vs.getD i .non=v:=by rw [List.getD_eq_getElem?_getD,e1];rfl
  have et:ts.getD i .non=ts[i]:=by rw [List.getD_eq_getElem?_getD,uV h0];rfl
  rw [uZ,uZ,ev,et]
  exact .cons e2 (TrsAt.map h fun j m=>hi j (uX _ m))
theorem Vals.map {vs:List V} {as:List Value} (h:Vals vs as):∀ {is:List Nat},(∀i∈is,i < vs.length)→Vals (is.map fun i=>vs.getD i .non) (is.map fun i=>as.getD i Value.none)
 | [],_=> .nil
 |i::is,hi=>by
  have h0:i < vs.length:=hi i v7
  obtain ⟨u,e1,e2⟩:=h.get (i:=i) (x:=vs[i]) (uV h0)
  have ev:vs.getD i .non=vs[i]:=by rw [List.getD_eq_getElem?_getD,uV h0];rfl
  have et:as.getD i Value.none=u:=by rw [List.getD_eq_getElem?_getD,e1];rfl
  rw [uZ,uZ,ev,et]
  exact .cons e2 (Vals.map h fun j m=>hi j (uX _ m))
section
variable {X:Cx} {pins:List (Addr×Obj)} {σ:L2.St} {H:Hp} {s:Shared}
end
end Tre
namespace Tre
open PySem L2
inductive So where
 |tm|fr|pr|ws|lt
abbrev s_ (x:String):Tr:= .str (Str.ofString x)
inductive Ty:So→Tr→Prop
 |nm (x:Str):Ty .tm (.tup [s_ "name", .str x])
 |ap (x:Str) (ts:List Tr):ts.length≤3→(∀t∈ts,Ty .tm t)→Ty .tm (.tup [s_ "call", .str x, .tup ts])
 |fr (a b:Int):Ty .fr (.tup [.int a, .int b])
 |pr (t f:Tr):Ty .tm t→Ty .fr f→Ty .pr (.tup [t,f])
 |fl (x:Str):Ty .ws (.tup [s_ "flag", .str x])
 |mo (ps:List Tr) (f:Tr):(∀p∈ps,Ty .pr p)→Ty .fr f→Ty .ws (.tup [s_ "most", .tup ps,f])
 |li (t u:Tr):Ty .tm t→Ty .tm u→Ty .ws (.tup [s_ "like",t,u])
 |no (w:Tr):Ty .ws w→Ty .ws (.tup [s_ "not",w])
 |bo (l:List Tr):(∀w∈l,Ty .ws w)→Ty .ws (.tup [s_ "both", .tup l])
 |ei (l:List Tr):(∀w∈l,Ty .ws w)→Ty .ws (.tup [s_ "either", .tup l])
 |lt (w:Tr) (b:Bool):Ty .ws w→Ty .lt (.tup [w, .bl b])
end Tre
namespace Mth
theorem p4 (a b:Int):Int.gcd b (a.fmod b)=Int.gcd a b:=by
 have e:a.fmod b=a - b*a.fdiv b:=Int.fmod_def a b
 rw [e,Int.gcd_comm a b]
 have:a - b*a.fdiv b=a+b*(-(a.fdiv b)):=by rw [Int.mul_neg,Int.sub_eq_add_neg]
 rw [this]
 exact Int.gcd_add_mul_left_right ..
theorem qU {a b:Int} (h:b≠0):(a.fmod b).natAbs < b.natAbs:=by
 by_cases hb:0 < b
 · have h1:=Int.fmod_nonneg_of_pos a hb
   have h2:=Int.fmod_lt_of_pos a hb
   omega
 · have h3:0 < -b:=by omega
   have e:a.fmod b= -((-a).fmod (-b)):=by
    rw [Int.neg_fmod_neg,Int.neg_neg]
   have h1:=Int.fmod_nonneg_of_pos (-a) h3
   have h2:=Int.fmod_lt_of_pos (-a) h3
   omega
noncomputable def dv (t b:Int):Int:=if b < 0 then -(Int.gcd t b:Int) else (Int.gcd t b:Int)
noncomputable def fx (t b:Int):Int:=t.fdiv (dv t b)
noncomputable def fy (t b:Int):Int:=b.fdiv (dv t b)
theorem pi {t b:Int} (h:b≠0):dv t b≠0:=by
 have:0 < Int.gcd t b:=Int.gcd_pos_of_ne_zero_right t h
 unfold dv
 split<;>omega
theorem pj {t b:Int}:(dv t b).natAbs=Int.gcd t b:=by
 unfold dv
 split<;>omega
theorem tU {t b:Int}:dv t b∣t∧dv t b∣b:=by
 have h1:((Int.gcd t b:Nat):Int)∣t:=Int.gcd_dvd_left ..
 have h2:((Int.gcd t b:Nat):Int)∣b:=Int.gcd_dvd_right ..
 unfold dv
 split
 · exact ⟨Int.neg_dvd.mpr h1,Int.neg_dvd.mpr h2⟩
 · exact ⟨h1,h2⟩
theorem rL {t b:Int} (h:b≠0):t=dv t b*fx t b∧b=dv t b*fy t b:=by
 obtain ⟨⟨x,hx⟩,⟨y,hy⟩⟩:=tU (t:=t) (b:=b)
 have n:=pi (t:=t) h
 have e1:fx t b=x:=by
  unfold fx
  generalize dv t b=d at*
  rw [hx]
  exact Int.mul_fdiv_cancel_left _ n
 have e2:fy t b=y:=by
  unfold fy
  generalize dv t b=d at*
  rw [hy]
  exact Int.mul_fdiv_cancel_left _ n
 rw [e1,e2]
 exact ⟨hx,hy⟩
theorem tP {t b:Int} (h:b≠0):1≤fy t b:=by
 obtain ⟨_,e⟩:=rL (t:=t) h
 have g:0 < Int.gcd t b:=Int.gcd_pos_of_ne_zero_right t h
 have n:=pi (t:=t) h
 by_cases q:1≤fy t b
 · exact q
 · exfalso
   have q':fy t b≤0:=by omega
   have d:(b < 0→dv t b < 0)∧(¬b < 0→0 < dv t b):=by
    unfold dv
    constructor
    · intro z;rw [if_pos z];omega
    · intro z;rw [if_neg z];omega
   by_cases z:b < 0
   · have:=Int.mul_nonneg_of_nonpos_of_nonpos (Int.le_of_lt (d.1 z)) q'
     omega
   · have:=Int.mul_nonpos_of_nonneg_of_nonpos (Int.le_of_lt (d.2 z)) q'
     omega
theorem tD {t b:Int} (h:b≠0):Int.gcd (fx t b) (fy t b)=1:=by
 obtain ⟨e1,e2⟩:=rL (t:=t) h
 have g:0 < Int.gcd t b:=Int.gcd_pos_of_ne_zero_right t h
 have e:Int.gcd t b=(dv t b).natAbs*Int.gcd (fx t b) (fy t b):=by
  have:Int.gcd t b=Int.gcd (dv t b*fx t b) (dv t b*fy t b):=by rw [←e1,←e2]
  rw [this,Int.gcd_mul_left]
 rw [pj] at e
 have:=Nat.eq_of_mul_eq_mul_left g (show Int.gcd t b*1=Int.gcd t b*Int.gcd (fx t b) (fy t b) by rw [←e,Nat.mul_one])
 exact this.symm
def cU (x y:Int):Prop:=0 < y∧Int.gcd x y=1
noncomputable def pT (a b c d:Int):Int:=a*(d / (Int.gcd b d:Int))+c*(b / (Int.gcd b d:Int))
theorem jE {t b:Int} (h:b≠0):cU (fx t b) (fy t b):=⟨by have:=tP (t:=t) h;omega,tD h⟩
theorem lu (a b:Int):(a / b).natAbs≤a.natAbs:=Int.natAbs_ediv_le_natAbs a b
end Mth
namespace L2
section
open PySem
variable {prog:Program} {w:World} {A:Around} {R:Result→Shared→Prop} {s:Shared}
theorem fH {elt target iter:Expr} {ifs:List Expr} {scope:Scope} {pos:Pos} {it acc:Value} {env:Env} (I:Nat→Shared→Prop)
 (turn:∀n s,I n s→wpAny (model prog w) A (pyNext it) (fun r s₁=>match r with
  |none=>R (.ok .next) s₁
  |some v=>wpAny (model prog w) A (letOwnedTupleGo target it v) (fun _ s₁'=>wpAny (model prog w) A (assign target env v) (fun _ s₂=>
   wpAny (model prog w) A (forIn ifs true fun c r=>if r=true then do let ok←isTrue c env (eval c env);pure (ForInStep.yield ok) else pure (ForInStep.yield r)) (fun ok s₃=>
    if ok=true then wpAny (model prog w) A (eval elt env) (fun x s₄=>
     wpAny (model prog w) A (call (.builtin "list.append") [acc,x]) (fun _ s₅=>∃m,m < n∧I m s₅) (fun _ _=>False) s₄) (fun _ _=>False) s₃
    else∃m,m < n∧I m s₃) (fun _ _=>False) s₂) (fun _ _=>False) s₁') (fun _ _=>False) s₁) (fun _ _=>False) s)
 (n:Nat) (h:I n s):codeAny (model prog w) A (.compLoop (.ListComp elt [⟨target,iter,ifs,0⟩] scope pos) 0 it acc env) R s:=by
 refine codeAny_loop rfl I (fun n s hI=> ?_) n h
 show wpAny _ A ((compTurn (.ListComp elt [⟨target,iter,ifs,0⟩] scope pos) 0 it acc env).onRaise (fun x=>do noteFrame x env;theTreesLotGoes x)) _ _ s
 refine wpAny_noted ?_
 rw [compTurn_list]
 refine wpAny_bind (wpAny_standAt (wpAny_bind (wpAny_mono (turn n s hI) (fun r s₁ h₁=> ?_) fun _ _ z=>z.elim)))
 cases r with
 |none=>exact wpAny_pure h₁
 |some v=>
  refine wpAny_bind (wpAny_mono h₁ (fun _ s₁' h₁'=> ?_) fun _ _ z=>z.elim)
  refine wpAny_bind (wpAny_mono h₁' (fun _ s₂ h₂=>wpAny_bind (wpAny_mono h₂ (fun ok s₃ h₃=> ?_) fun _ _ z=>z.elim)) fun _ _ z=>z.elim)
  cases ok with
  |false=>exact wpAny_pure ⟨rfl,h₃⟩
  |true=>
   exact wpAny_bind (wpAny_bind (wpAny_mono h₃ (fun x s₄ h₄=>wpAny_bind (wpAny_mono h₄ (fun _ s₅ h₅=>wpAny_pure (wpAny_pure ⟨rfl,h₅⟩)) fun _ _ z=>z.elim)) fun _ _ z=>z.elim))
noncomputable def c7 (names:List (Str×NameKind)) (cells:List (Str×Addr)):List (Str×Addr)→List (Str×Addr):=match names with
 | []=>fun cs=>cs
 |(n,k)::r=>fun cs=>c7 r cells (if (k== .free)=true then (n,(cells.lookup n).getD 0)::cs else cs)
noncomputable def bI (names:List (Str×NameKind)) (cells:List (Str×Addr)):Bool:=names.all fun y=> !(y.2== .free) ||(cells.lookup y.1).isSome
theorem ip (env:Env):∀(names:List (Str×NameKind)) (cs:List (Str×Addr)),bI names env.cells=true→
 (forIn names cs fun (x:Str×NameKind) (r:List (Str×Addr))=>match x with
  |(name,kind)=>if (kind==NameKind.free)=true then do let __do_lift←cellOf env name;pure (ForInStep.yield ((name,__do_lift)::r)) else pure (ForInStep.yield r):Sem (List (Str×Addr)))=pure (c7 names env.cells cs)
 | [],cs,_=>rfl
 |(n,k)::r,cs,h=>by
  unfold bI at h
  rw [List.all_cons,v4] at h
  rw [List.forIn_cons]
  unfold c7
  by_cases hk:(k==NameKind.free)=true
  · rw [if_pos hk]
    dsimp only
    rw [if_pos hk]
    have h1:(env.cells.lookup n).isSome=true:=by
     have:=h.1
     rw [hk] at this
     simpa using this
    obtain ⟨c,hc⟩:=Option.isSome_iff_exists.mp h1
    have e:cellOf env n=pure c:=by unfold cellOf;rw [hc]
    rw [e,hc]
    exact ip env r _ h.2
  · rw [if_neg hk]
    dsimp only
    rw [if_neg hk]
    exact ip env r _ h.2
theorem lD {scope:Scope} {env:Env} (h:bI scope.names env.cells=true):closureFor scope env=pure (c7 scope.names env.cells []):=by
 unfold closureFor
 have:=ip env scope.names [] h
 simp only [bind_pure]
 exact this
theorem j9 {cells:List (Str×Addr)}:∀(names:List (Str×NameKind)) (cs:List (Str×Addr)),bI names cells=true→(∀y c,cs.lookup y=some c→cells.lookup y=some c)→∀y c,(c7 names cells cs).lookup y=some c→cells.lookup y=some c
 | [],cs,_,hc,y,c,e=>hc y c e
 |(n,k)::r,cs,h,hc,y,c,e=>by
  unfold bI at h
  rw [List.all_cons,v4] at h
  refine j9 r _ h.2 (fun z d q=> ?_) y c e
  by_cases hk:(k==NameKind.free)=true
  · rw [if_pos hk,vw] at q
    cases zn:(z==n) with
    |true=>
     rw [zn] at q
     have h1:(cells.lookup n).isSome=true:=by
      have:=h.1
      rw [hk] at this
      simpa using this
     obtain ⟨c',hc'⟩:=Option.isSome_iff_exists.mp h1
     have zn':z=n:=by simpa using zn
     rw [zn',hc']
     have q':some ((cells.lookup n).getD 0)=some d:=q
     rw [hc'] at q'
     exact q'
    |false=>
     rw [zn] at q
     exact hc z d q
  · rw [if_neg hk] at q
    exact hc z d q
theorem gK {cells:List (Str×Addr)}:∀(names:List (Str×NameKind)) (cs:List (Str×Addr)) (y:Str),(∃c,cs.lookup y=some c)→∃c,(c7 names cells cs).lookup y=some c
 | [],cs,y,h=>h
 |(n,k)::r,cs,y,h=>by
  refine gK r _ y ?_
  by_cases hk:(k==NameKind.free)=true
  · rw [if_pos hk,vw]
    cases zn:(y==n) with
    |true=>exact ⟨_,rfl⟩
    |false=>exact h
  · rw [if_neg hk]
    exact h
theorem fK {cells:List (Str×Addr)}:∀(names:List (Str×NameKind)) (cs:List (Str×Addr)) (y:Str),(y,NameKind.free)∈names→∃c,(c7 names cells cs).lookup y=some c
 | [],_,y,h=>by cases h
 |(n,k)::r,cs,y,h=>by
  rcases vd.mp h with e|h
  · obtain ⟨e1,e2⟩:=Prod.mk.inj e
    subst e1
    subst e2
    unfold c7
    refine gK r _ y ?_
    rw [if_pos (show (NameKind.free==NameKind.free)=true from rfl),vw]
    have:(y==y)=true:=by simp
    rw [this]
    exact ⟨_,rfl⟩
  · exact fK r _ y h
end
open PySem PySem.Spec PyProof.Rows
noncomputable abbrev XC (X:Cx) (scope:Scope) (NC:List Str) (C:Addr) (s:Shared) (H:Hp) (fp:List Addr) (pn:List (Addr×Obj)):Cx:=
 {X with N:=NC,s₀:=s,H₀:=H,env:=compEnvC scope (c7 scope.names X.env.cells []) C X.env,outer:=X.stack,stack:=X.stack,ex:=fp,fn:=fun _=>false,pn:=pn,xe:=fun _ _=>False}
noncomputable def subS (mp:List (Option Nat)) (σ:St):St:=mp.map fun o=>match o with
 |some i=>(σ[i]?).getD none
 |none=>none
noncomputable def iM (N NC:List Str) (mp:List (Option Nat)) (names outer:List (Str×NameKind)):Bool:=(List.range mp.length).all fun j=>match mp[j]? with
 |some (some i)=>(match NC[j]?,N[i]? with
  |some y,some z=>y==z&&names.lookup y==some NameKind.free&& (outer.lookup y==some NameKind.cell ||outer.lookup y==some NameKind.free)
  |_,_=>false)
 |_=>true
theorem ow {N NC:List Str} {mp:List (Option Nat)} {names outer:List (Str×NameKind)} (h:iM N NC mp names outer=true) {j i:Nat} (e:mp[j]?=some (some i)):∃y,NC[j]?=some y∧N[i]?=some y∧names.lookup y=some .free∧(outer.lookup y=some .cell∨outer.lookup y=some .free):=by
 unfold iM at h
 rw [vj] at h
 have hj:j < mp.length:=(vg.mp e).1
 have:=h j (vG.mpr hj)
 rw [e] at this
 dsimp only at this
 split at this
 · rename_i y z e1 e2
   simp only [v4,Bool.or_eq_true,beq_iff_eq] at this
   obtain ⟨⟨rfl,h2⟩,h3⟩:=this
   exact ⟨y,e1,e2,h2,h3⟩
 · cases this
def PTs (X:Cx) (ifs:List Expr) (t:TT):Prop:=
 ∀(pins:List (Addr×Obj)) (s:Shared) (σ:St) (H:Hp) (Q:Bool→Hp→Prop),Inv X pins σ H s→t σ H Q→
  wpAny (model X.prog X.w) X.A (forIn ifs true fun c r=>if r=true then do let ok←isTrue c X.env (eval c X.env);pure (ForInStep.yield ok) else pure (ForInStep.yield r)) (TP X pins σ Q) X.xe s
def dh:TT:=fun _ H Q=>Q true H
theorem k6 {X:Cx}:PTs X [] dh:=fun _ _ σ H Q I h=>wpAny_tests_nil ⟨H,I,h⟩
theorem qg {X:Cx} {c:Expr} {t:TT} (hc:PT X c t):PTs X [c] t:=fun pins s σ H Q I h=>wpAny_tests_one (hc pins s σ H Q I h)
def Ext (σ σ':St):Prop:=∀(j:Nat) (v:V),σ[j]?=some (some v)→σ'[j]?=some (some v)
theorem ext1 {o:Option V} {r:St}:Ext (none::r) (o::r)
 |0,v,e=>by cases (vk (show some (none:Option V)=some (some v) from e))
 |j+1,v,e=>e
def di (mp:List (Option Nat)) (wi:TI) (g:TG) (tc:TT) (te:TE):TE:=fun σ H Q=>wi σ H fun J H1=>∀D,H1 D=none→
 ∃W:Nat→Nat→List V→Hp→Prop,(∃m,W 0 m [] (upd H1 D (.lst [])))∧∀i m acc H2,W i m acc H2→
  (J.stop i H2∧Q (.ref D) H2)∨
  (J.go i H2∧∀x H3,J.yld i H2 x H3→g x (subS mp σ) H3 fun σ4 H4=>Ext (subS mp σ) σ4∧tc σ4 H4 fun b H5=>if b=true then te σ4 H5 fun v H6=>H6 D=some (.lst acc)∧acc.length < sizeLine∧∃m',m' < m∧W (i+1) m' (acc++ [v]) (upd H6 D (.lst (acc++ [v])))
   else∃m',m' < m∧W (i+1) m' acc H5)
open PySem PySem.Spec PyProof.Rows
theorem bP {env:Env}:∀ {names:List (Str×NameKind)} {x:Str},names.lookup x=some .free→
 (names.map fun (n,k)=>if (k==NameKind.free&&env.scope.kind== .function&&env.kindOf n==some .cell) then (n,NameKind.cell) else (n,k)).lookup x=some .cell∨
 (names.map fun (n,k)=>if (k==NameKind.free&&env.scope.kind== .function&&env.kindOf n==some .cell) then (n,NameKind.cell) else (n,k)).lookup x=some .free
 | [],_,h=>by simp at h
 |(n,k)::r,x,h=>by
  have ih:= @bP env r x
  show List.lookup x ((if (k==NameKind.free&&env.scope.kind== .function&&env.kindOf n==some .cell)=true then (n,NameKind.cell) else (n,k))::_)=_∨List.lookup x ((if (k==NameKind.free&&env.scope.kind== .function&&env.kindOf n==some .cell)=true then (n,NameKind.cell) else (n,k))::_)=_
  cases hx:x==n with
  |true=>
   simp only [vw,hx] at h
   cases h
   by_cases hc:(NameKind.free==NameKind.free&&env.scope.kind== .function&&env.kindOf n==some .cell)=true
   · rw [if_pos hc]
     left
     simp only [vw,hx]
   · rw [if_neg hc]
     right
     simp only [vw,hx]
  |false=>
   simp only [vw,hx] at h
   by_cases hc:(k==NameKind.free&&env.scope.kind== .function&&env.kindOf n==some .cell)=true
   · rw [if_pos hc]
     simp only [vw,hx]
     exact ih h
   · rw [if_neg hc]
     simp only [vw,hx]
     exact ih h
theorem ek {env:Env}:∀ {names:List (Str×NameKind)} {x:Str},(∀y∈names,y.2≠ .cell)→
 ((names.map fun (n,k)=>if (k==NameKind.free&&env.scope.kind== .function&&env.kindOf n==some .cell) then (n,NameKind.cell) else (n,k)).lookup x=some .cell∨
 (names.map fun (n,k)=>if (k==NameKind.free&&env.scope.kind== .function&&env.kindOf n==some .cell) then (n,NameKind.cell) else (n,k)).lookup x=some .free)→(x,NameKind.free)∈names
 | [],_,_,h=>by simp at h
 |(n,k)::r,x,hn,h=>by
  have ih:= @ek env r x (fun y hy=>hn y (uX _ hy))
  have nk:k≠ .cell:=hn (n,k) v7
  rw [uZ] at h
  dsimp only at h
  cases hx:x==n with
  |true=>
   have xn:x=n:=by simpa using hx
   subst xn
   by_cases hc:(k==NameKind.free&&env.scope.kind== .function&&env.kindOf x==some .cell)=true
   · have:k= .free:=by
      have:=hc
      rw [v4,v4] at this
      simpa using this.1.1
     rw [this]
     exact v7
   · rw [if_neg hc,vw,hx] at h
     rcases h with h|h
     · exact absurd (vk h) nk
     · cases (vk h)
       exact v7
  |false=>
   refine uX _ (ih ?_)
   by_cases hc:(k==NameKind.free&&env.scope.kind== .function&&env.kindOf n==some .cell)=true
   · rw [if_pos hc,vw,hx] at h
     exact h
   · rw [if_neg hc,vw,hx] at h
     exact h
section
variable {X:Cx} {pins:List (Addr×Obj)} {σ:St} {H:Hp} {s:Shared}
theorem Inv.block {scope:Scope} {NC:List Str} {mp:List (Option Nat)} {fp:List Addr} {h1:Heap} {tk:Nat} {m:Str→Option Value} (I:Inv X pins σ H s) (hf:∀b∈fp,FpOk X pins H b) (hlt:∀b∈fp,b < s.heap.objs.size) (hk:scope.kind= .function) (hnc:∀y∈scope.names,y.2≠ .cell)
 (hc:bI scope.names X.env.cells=true) (hl:mp.length=NC.length) (hm:iM X.N NC mp scope.names X.env.scope.names=true) (kp:∀b o,s.heap.get? b=some o→h1.get? b=some o) (hn:h1.Ns s.heap.objs.size m):
 Inv (XC X scope NC s.heap.objs.size s H fp (X.pn++pins)) [] (subS mp σ) H {s with heap:=h1,toks:=tk}:=by
 have sub:=j9 (cells:=X.env.cells) scope.names [] hc (fun y c e=>by cases e)
 have lt:∀b o,s.heap.get? b=some o→b≠s.heap.objs.size:=fun b o e=>vf (Heap.lt_size e)
 have nst:∀b,b≠X.env.locals→b∉X.fs→b∉frs X.stack:=fun b h1 h2 z=>by
  rcases vd.mp (I.stkSub b z) with e|e
  · exact h1 e
  · exact h2 e
 refine ⟨⟨I.ok.mod,hk,I.ok.glob,I.ok.blt,uW _,fun x y c e1 e2=>I.ok.inj x y c (sub x c e1) (sub y c e2),fun x hx=> ?_,(fun _ _ z=>by cases z),I.ok.hd,I.ok.frames, .inl rfl,fun b hb=> ?_,fun b o e=> ?_,vh I.ok.bsz I.sz,fun b o e hb=> ?_,fun b hb=> ?_,I.stack,I.stkFree⟩,
  rfl,I.bare,Un.kept kp,⟨m,hn,fun j y v e1 e2 e3=> ?_⟩,fun y c e=> ?_,I.hok.fresh (uW _),fun y c e=>I.freeC y c (sub y c e),fun p hp=> ?_,I.hok.kept kp,?_⟩
 · exact fK scope.names [] x (ek hnc hx)
 · obtain ⟨f0,f1,f2,f3,f4,f5⟩:=hf b hb
   exact ⟨vf (hlt b hb),fun x c e=>f4 x c (sub x c e)⟩
 · obtain ⟨h1,h2⟩:=I.bs b o e
   exact ⟨h1,h2⟩
 · obtain ⟨f0,f1,f2,f3,f4,f5⟩:=hf b hb
   rcases f3 with z|z
   · exact I.ok.noex b o e z
   · exact absurd (v8 (Heap.lt_size e) (vh I.ok.bsz z)) (Nat.lt_irrefl _)
 · obtain ⟨f0,f1,f2,f3,f4,f5⟩:=hf b hb
   exact nst b f1 f2
 ·
  unfold subS at e2
  rw [vn] at e2
  cases q:mp[j]? with
  |none=>rw [q] at e2;cases e2
  |some o=>
   rw [q] at e2
   cases o with
   |none=>cases e2
   |some i=>
    have e2':some ((σ[i]?).getD none)=some (some v):=e2
    obtain ⟨z,y1,y2,y3,y4⟩:=ow hm q
    have yz:y=z:=vk ((show NC[j]?=some y from e1).symm.trans y1)
    subst yz
    have e4:σ[i]?=some (some v):=by
     cases w:σ[i]? with
     |none=>rw [w] at e2';cases e2'
     |some t=>rw [w] at e2';exact e2'
    obtain ⟨m0,hn0,hl0⟩:=I.loc
    obtain ⟨c,hcl⟩:=fK (cells:=X.env.cells) scope.names [] y (PySem.mem_of_lookup y3)
    have hcx:=sub y c hcl
    have vis:Vis X.env.scope y:= .inr y4
    obtain ⟨u,ru,lk⟩:=hl0 i y v y2 e4 vis
    refine ⟨u,ru, .inr ⟨bP y3,c,hcl,?_⟩⟩
    rcases lk with ⟨k1,_⟩|⟨_,c',k2,k3⟩
    · have k1':X.env.scope.names.lookup y=some .local:=k1
      rcases y4 with y4|y4<;>(rw [y4] at k1';cases k1')
    · rw [hcx] at k2
      cases k2
      obtain ⟨oc,q1,q2⟩:=k3
      exact ⟨oc,kp _ _ q1,q2⟩
 · obtain ⟨v,oc,q1,q2⟩:=I.cell y c (sub y c e)
   exact ⟨v,oc,kp _ _ q1,q2⟩
 · have hp':p∈X.pn++pins:=by simpa using hp
   obtain ⟨q1,q2,q3,q4,q5⟩:=I.pin p hp'
   exact ⟨kp _ _ q1,q2,lt _ _ q1,nst _ q3 q4,q5⟩
 · show (subS mp σ).length=NC.length
   unfold subS
   rw [uT,hl]
variable {elt target iter:Expr} {ifs:List Expr} {scope:Scope} {NC:List Str} {mp:List (Option Nat)} {pos:Pos} {wi:TI} {g:TG} {tc:TT} {te:TE}
theorem qr (hcalm:X.calm=true) (hi:PI X target iter wi) (hg:∀C s H fp pn,PG (XC X scope NC C s H fp pn) target g) (ht:∀C s H fp pn,PTs (XC X scope NC C s H fp pn) ifs tc) (he:∀C s H fp pn,PE (XC X scope NC C s H fp pn) elt te)
 (hl:mp.length=NC.length:=by rfl) (hm:iM X.N NC mp scope.names X.env.scope.names=true:=by rfl) (hc:bI scope.names X.env.cells=true:=by rfl) (hk:scope.kind= .function:=by rfl)
 (hnc:∀y∈scope.names,y.2≠ .cell:=by decide +kernel) (hnm:∀y∈scope.names,y.2= .local→scope.names.lookup y.1=some .local:=by decide +kernel) (hs:∀x,foldedSetIterable iter X.env x=pure x:=by intro _;rfl):
 PE X (.ListComp elt [⟨target,iter,ifs,0⟩] scope pos) (di mp wi g tc te):=by
 intro pins s σ H Q I h
 rw [eval_ListComp]
 refine wpAny_comprehension_free (use:=none) rfl hs (lD hc) hk hnm (thn (hi pins s σ H _ I h) fun v s1 h1=>thn h1 fun itv s2 h2=> ?_)
 obtain ⟨it,fp,tn,J,H2,e,I2,T,st2,f2,W⟩:=h2
 subst e
 refine wpAny_newObj_type ?_ (by show 0≤sizeLine;decide)
 have nD:H2 s2.heap.objs.size=none:=I2.hok.fresh (uW _)
 have I3:Inv X pins σ (upd H2 s2.heap.objs.size (.lst [])) {s2 with heap:=s2.heap.push {cls:= .type "list",data:= .seq ([]:List Value).toArray}}:=
  I2.laid (t':=s2.toks) (fun b u e=>Heap.get?_push_of_some _ e) (uW _) ⟨by show 0≤sizeLine;decide,[],0, .nil,Heap.get?_push_size _ rfl⟩
 obtain ⟨W,⟨m0,w0⟩,turn⟩:=W _ nD
 have lt2:∀b∈fp,b < s2.heap.objs.size:=fun b hb=>by
  obtain ⟨o,e,_⟩:=T.obj 0 _ st2 b hb
  exact Heap.lt_size e
 have nDf:∀b∈fp,b≠s2.heap.objs.size:=fun b hb=>vf (lt2 b hb)
 have f3:∀b∈fp,FpOk X pins (upd H2 s2.heap.objs.size (.lst [])) b:=fun b hb=>by
  obtain ⟨g0,g1⟩:=f2 b hb
  exact ⟨by rw [aj (nDf b hb)];exact g0,g1⟩
 have st3:tn 0 (s2.heap.push {cls:= .type "list",data:= .seq ([]:List Value).toArray}):=T.keep 0 _ _ st2 fun b _ o e=>Heap.get?_push_of_some _ e
 have lt3:∀b∈fp,b < (s2.heap.push {cls:= .type "list",data:= .seq ([]:List Value).toArray}).objs.size:=fun b hb=>by
  rw [Heap.size_push]
  exact Nat.lt_succ_of_lt (lt2 b hb)
 generalize hD:s2.heap.objs.size=D at*
 generalize hs3:({s2 with heap:=s2.heap.push {cls:= .type "list",data:= .seq ([]:List Value).toArray}}:Shared)=s3 at*
 have hh3:s3.heap=s2.heap.push {cls:= .type "list",data:= .seq ([]:List Value).toArray}:=by rw [←hs3]
 rw [←hh3] at st3 lt3
 generalize hH3:upd H2 D (.lst [])=H3 at*
 refine wpAny_newFunctionEnv (around:=some X.env) hnc (by intro y hy;cases hy) (fun h4 hn4 hsb4=> ?_) hk
 have kp4:∀b o,s3.heap.get? b=some o→h4.get? b=some o:=fun b o e=>hsb4.extBut b o (vf (Heap.lt_size e)) (Heap.get?_push_of_some _ e)
 have I4:=I3.block (tk:=s3.toks+([]:List (Str×Value)).length) f3 lt3 hk hnc hc hl hm kp4 hn4
 have st4:tn 0 h4:=T.keep 0 _ _ st3 fun b _ o e=>kp4 b o e
 have fin:∀(s5:Shared) (σ5:St) (H5:Hp),Inv (XC X scope NC s3.heap.objs.size s3 H3 fp (X.pn++pins)) [] σ5 H5 s5→Q (.ref D) H5→compPost (model X.prog X.w) X.A X.xe none (EP X pins σ Q) (.ref D) s3.heap.objs.size (.ok .next) s5:=by
  intro s5 σ5 H5 I5 q5
  obtain ⟨m5,hn5,_⟩:=id I5.loc
  refine ⟨m5,hn5,fun h6 sb6=>⟨.ref D,H5,?_,rfl,q5⟩⟩
  have kp6:∀b o,b≠s3.heap.objs.size→s5.heap.get? b=some o→h6.get? b=some o:=fun b o hb e=>sb6.extBut b o hb e
  have nC:∀b o,s3.heap.get? b=some o→b≠s3.heap.objs.size:=fun b o e=>vf (Heap.lt_size e)
  have un:Un (frs X.stack) fp H3 H5 s3.heap s5.heap:=I5.base
  have hfree:H5 s3.heap.objs.size=none:=I5.free
  refine I3.call' (s':= {s5 with heap:=h6}) (ch:=fp) I5.os ⟨fun b o e n hb hx=>kp6 b o (nC b o e) (un.keep b o e n hb hx),fun b o e n hb hx=> ?_,un.free,fun b o e hx=> ?_,un.tups,un.frzs,un.tbls⟩ ?_ I5.bare (fun b hb=> ?_)
  · obtain ⟨sl,e1⟩:=un.slot b o e n hb hx
    exact ⟨sl,kp6 b _ (nC b o e) e1⟩
  · obtain ⟨o',e1⟩:=un.there b o e hx
    exact ⟨o',kp6 b o' (nC b o e) e1⟩
  · intro b o e
    have nb:b≠s3.heap.objs.size:=fun z=>by rw [z,hfree] at e;cases e
    refine (I5.hok b o e).stay (fun c v hc' r=>kp6 c v ?_ r) (fun _ r=>r) fun _ _ r=>r
    rcases hc' with z|z
    · rw [z];exact nb
    · intro y
      rw [y,hfree] at z
      cases z
  · obtain ⟨g0,g1,g2,g3,g4,g5⟩:=f3 b hb
    exact ⟨g3,g1,g4,g5⟩
 have loop:codeAny (model X.prog X.w) X.A (.compLoop (.ListComp elt [⟨target,iter,ifs,0⟩] scope pos) 0 (.ref it) (.ref D) (compEnvC scope (c7 scope.names X.env.cells []) s3.heap.objs.size X.env)) (compPost (model X.prog X.w) X.A X.xe none (EP X pins σ Q) (.ref D) s3.heap.objs.size)
  {s3 with heap:=h4,toks:=s3.toks+([]:List (Str×Value)).length}:=by
  refine fH (fun n s'=>∃i acc σ' H',Inv (XC X scope NC s3.heap.objs.size s3 H3 fp (X.pn++pins)) [] σ' H' s'∧Ext (subS mp σ) σ'∧tn i s'.heap∧(∀b∈fp,H' b=none)∧W i n acc H') ?_ m0
   ⟨0,[],subS mp σ,H3,I4,fun _ _ e=>e,st4,fun b hb=>(f3 b hb).1,w0⟩
  rintro n s5 ⟨i,acc,σ5,H5,I5,hσ,st5,fr5,w5⟩
  have I5':Inv (XC X scope NC s3.heap.objs.size s3 H3 fp (X.pn++pins)) [] (subS mp σ) H5 s5:=I5.weak (by rw [I5.len];unfold subS;rw [uT];exact hl) hσ
  have fpk:∀ {H':Hp},(∀b∈fp,H' b=none)→∀b∈fp,FpOk (XC X scope NC s3.heap.objs.size s3 H3 fp (X.pn++pins)) [] H' b:=fun hn b hb=>by
   obtain ⟨g0,g1,g2,g3,g4,g5⟩:=f3 b hb
   refine ⟨hn b hb,vf (lt3 b hb),?_, .inl hb,(I4.ok.exf b hb).2,fun p hp=>g5 p (by simpa using hp)⟩
   exact I4.ok.exfs b hb
  rcases turn i n acc H5 w5 with ⟨stop,q⟩|⟨go,step⟩
  · refine thn (T.done (XC X scope NC s3.heap.objs.size s3 H3 fp (X.pn++pins)) rfl rfl rfl hcalm i [] s5 _ H5 (fun _ _=>False) I5' (fpk fr5) st5 stop) fun r s6 ⟨hr,I6⟩=> ?_
    subst hr
    exact fin s6 _ H5 I6 q
  · refine thn (T.item (XC X scope NC s3.heap.objs.size s3 H3 fp (X.pn++pins)) rfl rfl rfl hcalm i [] s5 _ H5 (fun _ _=>False) I5' (fpk fr5) st5 go) fun r s6 ⟨u,hr,h6⟩=> ?_
    subst hr
    refine thn h6 fun _ s7 ⟨x,H7,I7,r7,y7,st7,fr7⟩=> ?_
    have I7':=I7.pinned (fpk fr7) (T.obj _ _ st7)
    refine thn (hg _ _ _ _ _ _ s7 _ H7 x u _ I7' r7 (step x H7 y7)) fun _ s8 ⟨σ8,H8,I8,ext8,q8⟩=> ?_
    refine thn (ht _ _ _ _ _ _ s8 σ8 H8 _ I8 q8) fun ok s9 ⟨H9,I9,q9⟩=> ?_
    have again:∀ {σ':St} {H':Hp} {s':Shared} {acc':List V} {m':Nat},Inv (XC X scope NC s3.heap.objs.size s3 H3 fp (X.pn++pins)) ([]++dP fp s7.heap) σ' H' s'→Ext (subS mp σ) σ'→m' < n→W (i+1) m' acc' H'→
     ∃m,m < n∧∃i acc σ' H',Inv (XC X scope NC s3.heap.objs.size s3 H3 fp (X.pn++pins)) [] σ' H' s'∧Ext (subS mp σ) σ'∧tn i s'.heap∧(∀b∈fp,H' b=none)∧W i m acc H':=by
     intro σ' H' s' acc' m' I' hσ' hm' w'
     refine ⟨m',hm',i+1,acc',σ',H',I'.unpinned,hσ',T.keep _ _ _ st7 fun b hb o e=>(I'.pin (b,o) (vm _ (vm _ (bH hb e)))).1,fun b hb=> ?_,w'⟩
     obtain ⟨o,e,d⟩:=T.obj _ _ st7 b hb
     exact (I'.pin (b,o) (vm _ (vm _ (bH hb e)))).2.1
    cases ok with
    |false=>
     rw [if_neg v5] at q9
     rw [if_neg v5]
     obtain ⟨m',hm',w'⟩:=q9
     exact again I9 ext8 hm' w'
    |true=>
     rw [if_pos rfl] at q9
     rw [if_pos rfl]
     refine thn (he _ _ _ _ _ _ s9 σ8 H9 _ I9 q9) fun v s10 ⟨y,H10,I10,r10,hD10,hz,m',hm',w'⟩=> ?_
     refine thn (cr (X:=XC X scope NC s3.heap.objs.size s3 H3 fp (X.pn++pins)) _ s10 σ8 H10 (.ref D) [y] (.ref D) [v] (fun _ H'=>H'=upd H10 D (.lst (acc++ [y]))) I10 rfl (.cons r10 .nil) ⟨D,acc,y,rfl,rfl,hD10,hz,rfl⟩) fun _ s11 ⟨_,H11,I11,_,e11⟩=> ?_
     subst e11
     exact again I11 ext8 hm' w'
 exact codeAny_compStart_list loop (T.self _ 0 _ _ _ st4 loop)
end
open PySem PySem.Spec PyProof.Rows
section
variable {X:Cx} {pins:List (Addr×Obj)} {σ:St} {H:Hp} {s:Shared}
theorem lK {h h':Heap} {a b:Addr} {m:Str→Option Value} (hn:h.Ns a m) (sb:Heap.SameBut b h h') (ne:a≠b):h'.Ns a m:=by
 obtain ⟨o,es,ep,ho,r⟩:=hn
 exact ⟨o,es,ep,(sb.2 a ne).trans ho,r⟩
variable {elt target iter:Expr} {ifs:List Expr} {scope:Scope} {NC:List Str} {mp:List (Option Nat)} {pos spos:Pos} {wi:TI} {g:TG} {tc:TT} {te:TE} {i:Nat} {x:Str} {px:Pos}
theorem k7 (hcalm:X.calm=true) (hN:X.N.Nodup) (hix:X.N[i]?=some x) (hx:X.env.scope.names.lookup x=some .local) (hsw:swapsWith (.ListComp elt [⟨target,iter,ifs,0⟩] scope pos) (some (.Name x px)) spos.line X.env=pure true)
 (hi:PI X target iter wi) (hg:∀C s H fp pn,PG (XC X scope NC C s H fp pn) target g) (ht:∀C s H fp pn,PTs (XC X scope NC C s H fp pn) ifs tc) (he:∀C s H fp pn,PE (XC X scope NC C s H fp pn) elt te)
 (hl:mp.length=NC.length:=by rfl) (hm:iM X.N NC mp scope.names X.env.scope.names=true:=by rfl) (hc:bI scope.names X.env.cells=true:=by rfl) (hk:scope.kind= .function:=by rfl)
 (hnc:∀y∈scope.names,y.2≠ .cell:=by decide +kernel) (hnm:∀y∈scope.names,y.2= .local→scope.names.lookup y.1=some .local:=by decide +kernel) (hs:∀x,foldedSetIterable iter X.env x=pure x:=by intro _;rfl):
 PS X (.Assign [.Name x px] (.ListComp elt [⟨target,iter,ifs,0⟩] scope pos) spos) (tAsg (di mp wi g tc te) (bB i)):=by
 intro pins s σ H Z I h
 rw [exec_Assign_Name_used _ _ _ _ hsw]
 refine wpAny_bind (wpAny_standAt (wpAny_bind ?_))
 show wpAny _ _ (do let _←comprehension (.ListComp elt [⟨target,iter,ifs,0⟩] scope pos) scope X.env _ (newList []) false (eval iter X.env) (some (assign (.Name x px) X.env))) _ _ s
 refine wpAny_bind (wpAny_mono (wpAny_comprehension_free (use:=some (assign (.Name x px) X.env)) (Q:=fun _ s'=>SP X pins Z .next s') (E:=X.xe) rfl hs (lD hc) hk hnm
  (thn (hi pins s σ H _ I h) fun v s1 h1=>thn h1 fun itv s2 h2=> ?_)) (fun _ s' q=>wpAny_pure (wpAny_pure q)) fun _ _ e=>e)
 obtain ⟨it,fp,tn,J,H2,e,I2,T,st2,f2,W⟩:=h2
 subst e
 refine wpAny_newObj_type ?_ (by show 0≤sizeLine;decide)
 have nD:H2 s2.heap.objs.size=none:=I2.hok.fresh (uW _)
 have I3:Inv X pins σ (upd H2 s2.heap.objs.size (.lst [])) {s2 with heap:=s2.heap.push {cls:= .type "list",data:= .seq ([]:List Value).toArray}}:=
  I2.laid (t':=s2.toks) (fun b u e=>Heap.get?_push_of_some _ e) (uW _) ⟨by show 0≤sizeLine;decide,[],0, .nil,Heap.get?_push_size _ rfl⟩
 obtain ⟨W,⟨m0,w0⟩,turn⟩:=W _ nD
 have lt2:∀b∈fp,b < s2.heap.objs.size:=fun b hb=>by
  obtain ⟨o,e,_⟩:=T.obj 0 _ st2 b hb
  exact Heap.lt_size e
 have nDf:∀b∈fp,b≠s2.heap.objs.size:=fun b hb=>vf (lt2 b hb)
 have f3:∀b∈fp,FpOk X pins (upd H2 s2.heap.objs.size (.lst [])) b:=fun b hb=>by
  obtain ⟨g0,g1⟩:=f2 b hb
  exact ⟨by rw [aj (nDf b hb)];exact g0,g1⟩
 have st3:tn 0 (s2.heap.push {cls:= .type "list",data:= .seq ([]:List Value).toArray}):=T.keep 0 _ _ st2 fun b _ o e=>Heap.get?_push_of_some _ e
 have lt3:∀b∈fp,b < (s2.heap.push {cls:= .type "list",data:= .seq ([]:List Value).toArray}).objs.size:=fun b hb=>by
  rw [Heap.size_push]
  exact Nat.lt_succ_of_lt (lt2 b hb)
 generalize hD:s2.heap.objs.size=D at*
 generalize hs3:({s2 with heap:=s2.heap.push {cls:= .type "list",data:= .seq ([]:List Value).toArray}}:Shared)=s3 at*
 have hh3:s3.heap=s2.heap.push {cls:= .type "list",data:= .seq ([]:List Value).toArray}:=by rw [←hs3]
 rw [←hh3] at st3 lt3
 generalize hH3:upd H2 D (.lst [])=H3 at*
 refine wpAny_newFunctionEnv (around:=some X.env) hnc (by intro y hy;cases hy) (fun h4 hn4 hsb4=> ?_) hk
 have kp4:∀b o,s3.heap.get? b=some o→h4.get? b=some o:=fun b o e=>hsb4.extBut b o (vf (Heap.lt_size e)) (Heap.get?_push_of_some _ e)
 have I4:=I3.block (tk:=s3.toks+([]:List (Str×Value)).length) f3 lt3 hk hnc hc hl hm kp4 hn4
 have st4:tn 0 h4:=T.keep 0 _ _ st3 fun b _ o e=>kp4 b o e
 have nC:∀b o,s3.heap.get? b=some o→b≠s3.heap.objs.size:=fun b o e=>vf (Heap.lt_size e)
 have out:∀(s5:Shared) (σ5:St) (H5:Hp) (h6:Heap),Inv (XC X scope NC s3.heap.objs.size s3 H3 fp (X.pn++pins)) [] σ5 H5 s5→Heap.SameBut s3.heap.objs.size s5.heap h6→Inv X pins σ H5 {s5 with heap:=h6}:=by
  intro s5 σ5 H5 h6 I5 sb6
  have kp6:∀b o,b≠s3.heap.objs.size→s5.heap.get? b=some o→h6.get? b=some o:=fun b o hb e=>sb6.extBut b o hb e
  have un:Un (frs X.stack) fp H3 H5 s3.heap s5.heap:=I5.base
  have hfree:H5 s3.heap.objs.size=none:=I5.free
  refine I3.call' (s':= {s5 with heap:=h6}) (ch:=fp) I5.os ⟨fun b o e n hb hx=>kp6 b o (nC b o e) (un.keep b o e n hb hx),fun b o e n hb hx=> ?_,un.free,fun b o e hx=> ?_,un.tups,un.frzs,un.tbls⟩ ?_ I5.bare (fun b hb=> ?_)
  · obtain ⟨sl,e1⟩:=un.slot b o e n hb hx
    exact ⟨sl,kp6 b _ (nC b o e) e1⟩
  · obtain ⟨o',e1⟩:=un.there b o e hx
    exact ⟨o',kp6 b o' (nC b o e) e1⟩
  · intro b o e
    have nb:b≠s3.heap.objs.size:=fun z=>by rw [z,hfree] at e;cases e
    refine (I5.hok b o e).stay (fun c v hc' r=>kp6 c v ?_ r) (fun _ r=>r) fun _ _ r=>r
    rcases hc' with z|z
    · rw [z];exact nb
    · intro y
      rw [y,hfree] at z
      cases z
  · obtain ⟨g0,g1,g2,g3,g4,g5⟩:=f3 b hb
    exact ⟨g3,g1,g4,g5⟩
 have fin:∀(s5:Shared) (σ5:St) (H5:Hp),Inv (XC X scope NC s3.heap.objs.size s3 H3 fp (X.pn++pins)) [] σ5 H5 s5→Z.nx (σ.set i (some (.ref D))) H5→compPost (model X.prog X.w) X.A X.xe (some (assign (.Name x px) X.env)) (fun _ s'=>SP X pins Z .next s') (.ref D) s3.heap.objs.size (.ok .next) s5:=by
  intro s5 σ5 H5 I5 q5
  obtain ⟨m5,hn5,_⟩:=id I5.loc
  have I6:=out s5 σ5 H5 s5.heap I5 (.refl ..)
  have lC:X.env.locals≠s3.heap.objs.size:=vf I3.lt
  show wpAny _ _ (assign (.Name x px) X.env (.ref D)) _ _ _
  refine wpAny_assign_Name (g9 (X:=X) (v:= .ref D) I6 hN hix (.inl hx) rfl (fun s7 I7 hch=> ?_) (.inr hx))
  obtain ⟨a,sb7,ha⟩:=hch
  have aC:s3.heap.objs.size≠a:=by
   rcases ha with z|z
   · rw [z];exact Ne.symm lC
   · obtain ⟨v,oc,q1,_⟩:=I3.cell x a z
     exact Ne.symm (nC a oc q1)
  refine ⟨m5,lK hn5 sb7 aC,fun h8 sb8=>⟨σ.set i (some (.ref D)),H5,?_,q5⟩⟩
  have hfree:H5 s3.heap.objs.size=none:=I5.free
  have kp8:∀b o,b≠s3.heap.objs.size→s7.heap.get? b=some o→h8.get? b=some o:=fun b o hb e=>sb8.extBut b o hb e
  have s0lt:∀b o,X.s₀.heap.get? b=some o→b≠s3.heap.objs.size:=fun b o e=>vf (v8 (Heap.lt_size e) I3.sz)
  refine ⟨I7.ok,I7.os,I7.bare,⟨fun b o e n hb hx=>kp8 b o (s0lt b o e) (I7.base.keep b o e n hb hx),fun b o e n hb hx=> ?_,I7.base.free,fun b o e hx=> ?_,I7.base.tups,I7.base.frzs,I7.base.tbls⟩,?_,fun y c e=> ?_,I7.free,I7.freeC,fun p hp=> ?_,?_,I7.len⟩
  · obtain ⟨sl,e1⟩:=I7.base.slot b o e n hb hx
    exact ⟨sl,kp8 b _ (s0lt b o e) e1⟩
  · obtain ⟨o',e1⟩:=I7.base.there b o e hx
    exact ⟨o',kp8 b o' (s0lt b o e) e1⟩
  · obtain ⟨m7,hn7,hl7⟩:=I7.loc
    have cellN:∀y c,X.env.cells.lookup y=some c→c≠s3.heap.objs.size:=fun y c e=>by
     obtain ⟨v,oc,q1,_⟩:=I3.cell y c e
     exact nC c oc q1
    refine ⟨m7,lK hn7 sb8 lC,fun j y v e1 e2 e3=> ?_⟩
    obtain ⟨u,ru,lk⟩:=hl7 j y v e1 e2 e3
    refine ⟨u,ru,?_⟩
    rcases lk with lk|⟨k1,c,k2,k3⟩
    · exact .inl lk
    · exact .inr ⟨k1,c,k2,k3.sameBut sb8 (cellN y c k2)⟩
  · obtain ⟨w',z⟩:=I7.cell y c e
    obtain ⟨v,oc,q1,_⟩:=I3.cell y c e
    exact ⟨w',z.sameBut sb8 (nC c oc q1)⟩
  · obtain ⟨e,n1,n2,n3,n4⟩:=I7.pin p hp
    obtain ⟨e3,_⟩:=I3.pin p hp
    exact ⟨kp8 _ _ (nC _ _ e3) e,n1,n2,n3,n4⟩
  · intro b o e
    have nb:b≠s3.heap.objs.size:=fun z=>by rw [z,hfree] at e;cases e
    refine (I7.hok b o e).stay (fun c v hc' r=>kp8 c v ?_ r) (fun _ r=>r) fun _ _ r=>r
    rcases hc' with z|z
    · rw [z];exact nb
    · intro y
      rw [y,hfree] at z
      cases z
 have loop:codeAny (model X.prog X.w) X.A (.compLoop (.ListComp elt [⟨target,iter,ifs,0⟩] scope pos) 0 (.ref it) (.ref D) (compEnvC scope (c7 scope.names X.env.cells []) s3.heap.objs.size X.env)) (compPost (model X.prog X.w) X.A X.xe (some (assign (.Name x px) X.env)) (fun _ s'=>SP X pins Z .next s') (.ref D) s3.heap.objs.size)
  {s3 with heap:=h4,toks:=s3.toks+([]:List (Str×Value)).length}:=by
  refine fH (fun n s'=>∃i acc σ' H',Inv (XC X scope NC s3.heap.objs.size s3 H3 fp (X.pn++pins)) [] σ' H' s'∧Ext (subS mp σ) σ'∧tn i s'.heap∧(∀b∈fp,H' b=none)∧W i n acc H') ?_ m0
   ⟨0,[],subS mp σ,H3,I4,fun _ _ e=>e,st4,fun b hb=>(f3 b hb).1,w0⟩
  rintro n s5 ⟨i,acc,σ5,H5,I5,hσ,st5,fr5,w5⟩
  have I5':Inv (XC X scope NC s3.heap.objs.size s3 H3 fp (X.pn++pins)) [] (subS mp σ) H5 s5:=I5.weak (by rw [I5.len];unfold subS;rw [uT];exact hl) hσ
  have fpk:∀ {H':Hp},(∀b∈fp,H' b=none)→∀b∈fp,FpOk (XC X scope NC s3.heap.objs.size s3 H3 fp (X.pn++pins)) [] H' b:=fun hn b hb=>by
   obtain ⟨g0,g1,g2,g3,g4,g5⟩:=f3 b hb
   refine ⟨hn b hb,vf (lt3 b hb),?_, .inl hb,(I4.ok.exf b hb).2,fun p hp=>g5 p (by simpa using hp)⟩
   exact I4.ok.exfs b hb
  rcases turn i n acc H5 w5 with ⟨stop,q⟩|⟨go,step⟩
  · refine thn (T.done (XC X scope NC s3.heap.objs.size s3 H3 fp (X.pn++pins)) rfl rfl rfl hcalm i [] s5 _ H5 (fun _ _=>False) I5' (fpk fr5) st5 stop) fun r s6 ⟨hr,I6⟩=> ?_
    subst hr
    exact fin s6 _ H5 I6 q
  · refine thn (T.item (XC X scope NC s3.heap.objs.size s3 H3 fp (X.pn++pins)) rfl rfl rfl hcalm i [] s5 _ H5 (fun _ _=>False) I5' (fpk fr5) st5 go) fun r s6 ⟨u,hr,h6⟩=> ?_
    subst hr
    refine thn h6 fun _ s7 ⟨x,H7,I7,r7,y7,st7,fr7⟩=> ?_
    have I7':=I7.pinned (fpk fr7) (T.obj _ _ st7)
    refine thn (hg _ _ _ _ _ _ s7 _ H7 x u _ I7' r7 (step x H7 y7)) fun _ s8 ⟨σ8,H8,I8,ext8,q8⟩=> ?_
    refine thn (ht _ _ _ _ _ _ s8 σ8 H8 _ I8 q8) fun ok s9 ⟨H9,I9,q9⟩=> ?_
    have again:∀ {σ':St} {H':Hp} {s':Shared} {acc':List V} {m':Nat},Inv (XC X scope NC s3.heap.objs.size s3 H3 fp (X.pn++pins)) ([]++dP fp s7.heap) σ' H' s'→Ext (subS mp σ) σ'→m' < n→W (i+1) m' acc' H'→
     ∃m,m < n∧∃i acc σ' H',Inv (XC X scope NC s3.heap.objs.size s3 H3 fp (X.pn++pins)) [] σ' H' s'∧Ext (subS mp σ) σ'∧tn i s'.heap∧(∀b∈fp,H' b=none)∧W i m acc H':=by
     intro σ' H' s' acc' m' I' hσ' hm' w'
     refine ⟨m',hm',i+1,acc',σ',H',I'.unpinned,hσ',T.keep _ _ _ st7 fun b hb o e=>(I'.pin (b,o) (vm _ (vm _ (bH hb e)))).1,fun b hb=> ?_,w'⟩
     obtain ⟨o,e,d⟩:=T.obj _ _ st7 b hb
     exact (I'.pin (b,o) (vm _ (vm _ (bH hb e)))).2.1
    cases ok with
    |false=>
     rw [if_neg v5] at q9
     rw [if_neg v5]
     obtain ⟨m',hm',w'⟩:=q9
     exact again I9 ext8 hm' w'
    |true=>
     rw [if_pos rfl] at q9
     rw [if_pos rfl]
     refine thn (he _ _ _ _ _ _ s9 σ8 H9 _ I9 q9) fun v s10 ⟨y,H10,I10,r10,hD10,hz,m',hm',w'⟩=> ?_
     refine thn (cr (X:=XC X scope NC s3.heap.objs.size s3 H3 fp (X.pn++pins)) _ s10 σ8 H10 (.ref D) [y] (.ref D) [v] (fun _ H'=>H'=upd H10 D (.lst (acc++ [y]))) I10 rfl (.cons r10 .nil) ⟨D,acc,y,rfl,rfl,hD10,hz,rfl⟩) fun _ s11 ⟨_,H11,I11,_,e11⟩=> ?_
     subst e11
     exact again I11 ext8 hm' w'
 exact codeAny_compStart_list loop (T.self _ 0 _ _ _ st4 loop)
end
open PySem PySem.Spec PyProof.Rows
section
variable {κ:Type} [DecidableEq κ]
noncomputable def valV (kvs:List (κ×V)) (k:κ):Option V:=(kvs.find? fun kv=>decide (kv.1=k)).map (·.2)
noncomputable def putK (kvs:List (κ×V)) (k:κ) (v:V):List (κ×V):=
 if (kvs.any fun kv=>decide (kv.1=k))=true then kvs.map (fun kv=>if kv.1=k then (kv.1,v) else kv) else kvs++ [(k,v)]
theorem mX {k:κ}:valV ([]:List (κ×V)) k=none:=rfl
theorem cH {p:κ×V} {r:List (κ×V)} {k:κ} (e:p.1=k):valV (p::r) k=some p.2:=by simp [valV,vC,e]
theorem cI {p:κ×V} {r:List (κ×V)} {k:κ} (e:¬p.1=k):valV (p::r) k=valV r k:=by simp [valV,vC,e]
theorem eQ (k:κ):∀kvs:List (κ×V),(kvs.any fun kv=>decide (kv.1=k))=(valV kvs k).isSome
 | []=>rfl
 |p::r=>by
  rw [vX]
  by_cases e:p.1=k
  · simp only [cH e,decide_eq_true e,Bool.true_or,Option.isSome_some]
  · rw [cI e,decide_eq_false e,Bool.false_or];exact eQ k r
theorem eE (kvs:List (κ×V)) (k:κ) (v:V):(putK kvs k v).length≤kvs.length+1:=by
 unfold putK
 split
 · rw [uT];omega
 · rw [vc,uU,vR];omega
theorem iG {kvs:List (κ×V)} {k:κ} (v:V) (h:valV kvs k=none):putK kvs k v=kvs++ [(k,v)]:=by
 unfold putK
 rw [eQ,h]
 exact if_neg (by decide)
theorem RelO.isSome_eq {o:Option V} {u:Option Value} (r:RelO o u):o.isSome=u.isSome:=by
 cases o with
 |none=>cases u with
  |none=>rfl
  |some _=>exact (show False from r).elim
 |some _=>cases u with
  |none=>exact (show False from r).elim
  |some _=>rfl
theorem RelO.getD {o:Option V} {u:Option Value} {d:V} {d':Value} (r:RelO o u) (rd:RelV d d'):RelV (o.getD d) (u.getD d'):=by
 cases o with
 |none=>cases u with
  |none=>exact rd
  |some _=>exact (show False from r).elim
 |some _=>cases u with
  |none=>exact (show False from r).elim
  |some _=>exact r
theorem KV.val {kvs:List (κ×V)} {vs:List (κ×Value)} (r:KV kvs vs) (k:κ):RelO (valV kvs k) (valueAt vs k):=by
 unfold KV at r
 induction r with
 |nil=>exact True.intro
 | @cons p q ps qs h t ih=>
  obtain ⟨h1,h2⟩:=h
  by_cases e:p.1=k
  · have e':q.1=k:=h1.symm.trans e
    have b:valueAt (q::qs) k=some q.2:=by simp [valueAt,vC,e']
    rw [cH e,b];exact h2
  · have e':¬q.1=k:=fun z=>e (h1.trans z)
    have b:valueAt (q::qs) k=valueAt qs k:=by simp [valueAt,vC,e']
    rw [cI e,b];exact ih
theorem KV.any {kvs:List (κ×V)} {vs:List (κ×Value)} (r:KV kvs vs) (k:κ):(kvs.any fun kv=>decide (kv.1=k))=vs.any fun kv=>decide (kv.1=k):=by
 unfold KV at r
 induction r with
 |nil=>rfl
 |cons h t ih=>rw [vX,vX,ih,h.1]
theorem KV.repl {kvs:List (κ×V)} {vs:List (κ×Value)} (r:KV kvs vs) (k:κ) {y:V} {u:Value} (ry:RelV y u):
 KV (kvs.map fun kv=>if kv.1=k then (kv.1,y) else kv) (vs.map fun kv=>if kv.1=k then (kv.1,u) else kv):=by
 unfold KV at r ⊢
 induction r with
 |nil=>exact .nil
 | @cons p q ps qs h t ih=>
  rw [uZ,uZ]
  refine .cons ?_ ih
  obtain ⟨h1,h2⟩:=h
  by_cases e:p.1=k
  · rw [if_pos e,if_pos (h1.symm.trans e)];exact ⟨h1,ry⟩
  · rw [if_neg e,if_neg (fun z=>e (h1.trans z))];exact ⟨h1,h2⟩
theorem KV.put {kvs:List (κ×V)} {vs:List (κ×Value)} (r:KV kvs vs) (k:κ) {y:V} {u:Value} (ry:RelV y u):KV (putK kvs k y) (stored vs k u):=by
 unfold putK stored
 rw [r.any k]
 by_cases e:(vs.any fun kv=>decide (kv.1=k))=true
 · rw [if_pos e,if_pos e];exact r.repl k ry
 · rw [if_neg e,if_neg e];exact Paired.snoc r ⟨rfl,ry⟩
theorem KV.keys {kvs:List (κ×V)} {vs:List (κ×Value)} (r:KV kvs vs):kvs.map (·.1)=vs.map (·.1):=by
 unfold KV at r
 induction r with
 |nil=>rfl
 |cons h t ih=>rw [uZ,uZ,ih,h.1]
theorem KV.length {kvs:List (κ×V)} {vs:List (κ×Value)} (r:KV kvs vs):kvs.length=vs.length:=Paired.length r
end
theorem oV {P:Program} {w:World} {k:Key} {u:Value} (r:RelV (kV k) u):(aV P w).is k u=true:=by
 cases k with
 |inl i=>obtain ⟨t,e⟩:=(show∃t,u=Value.int i t from r);subst e;exact iP P w i t
 |inr x=>obtain ⟨t,e⟩:=(show∃t,u=Value.str x t from r);subst e;exact iO P w x t
theorem gy {P:Program} {w:World}:∀ {ks:List Key} {us:List Value},Vals (ks.map kV) us→ItemsAre (aV P w) ks us
 | [],_,r=>by rw [List.map_nil] at r;cases r;exact .nil
 |k::ks,_,r=>by
  rw [uZ] at r
  cases r with
  |cons h t=>exact .cons (oV h) (gy t)
abbrev KT (H:Hp):List (List Key×V)→List (List Key×Addr×Value)→Prop:=Paired fun p q=>p.1=q.1∧H q.2.1=some (.tup (p.1.map kV))∧RelV p.2 q.2.2
theorem KT.val {H:Hp} {kvs:List (List Key×V)} {xs:List (List Key×Addr×Value)} (r:KT H kvs xs) (k:List Key):RelO (valV kvs k) ((atKey xs k).map (·.2)):=by
 induction r with
 |nil=>exact True.intro
 | @cons p q ps qs h t ih=>
  obtain ⟨h1,_,h2⟩:=h
  by_cases e:p.1=k
  · have e':q.1=k:=h1.symm.trans e
    have b:atKey (q::qs) k=some q.2:=by simp [atKey,vC,e']
    rw [cH e,b];exact h2
  · have e':¬q.1=k:=fun z=>e (h1.trans z)
    have b:atKey (q::qs) k=atKey qs k:=by simp [atKey,vC,e']
    rw [cI e,b];exact ih
theorem KT.repl {H:Hp} {kvs:List (List Key×V)} {xs:List (List Key×Addr×Value)} (r:KT H kvs xs) (k:List Key) {y:V} {u:Value} (ry:RelV y u):
 KT H (kvs.map fun kv=>if kv.1=k then (kv.1,y) else kv) (xs.map (putAt k u)):=by
 induction r with
 |nil=>exact .nil
 | @cons p q ps qs h t ih=>
  rw [uZ,uZ]
  refine .cons ?_ ih
  obtain ⟨h1,h2,h3⟩:=h
  unfold putAt
  by_cases e:p.1=k
  · rw [if_pos e,if_pos (h1.symm.trans e)];exact ⟨h1,h2,ry⟩
  · rw [if_neg e,if_neg (fun z=>e (h1.trans z))];exact ⟨h1,h2,h3⟩
theorem KT.put {H:Hp} {kvs:List (List Key×V)} {xs:List (List Key×Addr×Value)} (r:KT H kvs xs) (k:List Key) {b:Addr} {y:V} {u:Value} (hb:H b=some (.tup (k.map kV))) (ry:RelV y u):
 KT H (putK kvs k y) (storedH xs k b u):=by
 have e:(kvs.any fun kv=>decide (kv.1=k))=(atKey xs k).isSome:=by
  rw [eQ,(r.val k).isSome_eq,Option.isSome_map]
 unfold putK storedH
 rw [e]
 by_cases q:(atKey xs k).isSome=true
 · rw [if_pos q,if_pos q];exact r.repl k ry
 · rw [if_neg q,if_neg q];exact Paired.snoc r ⟨rfl,hb,ry⟩
theorem KT.keeps {H H':Hp} {kvs:List (List Key×V)} {xs:List (List Key×Addr×Value)} (r:KT H kvs xs) (ht:∀b ys,H b=some (.tup ys)→H' b=some (.tup ys)):KT H' kvs xs:=
 Paired.mapP r fun _ _ z=>⟨z.1,ht _ _ z.2.1,z.2.2⟩
section
variable {P:Program} {w:World} {H:Hp} {h:Heap} {a:Addr}
theorem rK {u:HO} (ok:HOk P w H h) (e:Rd H a u):ObjOk P w H h a u:=e.ok ok
theorem rZ {kvs:List (Key×V)} (ok:HOk P w H h) (e:Rd H a (.dK kvs)):kvs.length≤sizeLine∧(a==sysModules)=false∧∃vs,KV kvs vs∧h.DictOf (aV P w) a vs:=
 show ObjOk P w H h a (.dK kvs) from rK ok e
theorem pq {kvs:List (Key×V)} (ok:HOk P w H h) (e:H a=some (.dK kvs)):kvs.length≤sizeLine∧(a==sysModules)=false∧∃vs,KV kvs vs∧h.DictOf (aV P w) a vs:=rZ ok (.inl e)
theorem fk {ks:List Key} (ok:HOk P w H h) (e:H a=some (.tup (ks.map kV))):(tupleKind (aV P w)).is h ks a:=by
 obtain ⟨_,its,r,o,h1,h2,n,h3⟩:=(show ObjOk P w H h a (.tup (ks.map kV)) from ok a _ e)
 exact ⟨o,its.toArray,n,h1,h2,h3,by simpa using gy r⟩
theorem rY {kvs:List (List Key×V)} (ok:HOk P w H h) (e:Rd H a (.dT kvs)):kvs.length≤sizeLine∧(a==sysModules)=false∧
 ∃xs,KT H kvs xs∧h.DictOfH (tupleKind (aV P w)) a xs:=by
 obtain ⟨z,y,xs,r,o,es,ep,h1,h2,h3,h4,h5⟩:=(show ObjOk P w H h a (.dT kvs) from rK ok e)
 refine ⟨z,y,xs,r,o,es,ep,h1,h2,h3,h4,fun x hx=> ?_,h5⟩
 have all:∀ {l:List (List Key×V)} {m:List (List Key×Addr×Value)},KT H l m→∀x∈m,(tupleKind (aV P w)).is h x.1 x.2.1:=by
  intro l m q
  induction q with
  |nil=>intro x hx;exact nomatch hx
  | @cons p q ps qs hq t ih=>
   intro x hx
   rcases vd.mp hx with e|hx
   · subst e
     exact fk ok (by rw [←hq.1];exact hq.2.1)
   · exact ih x hx
 exact all r x hx
theorem uR {kvs:List (List Key×V)} (ok:HOk P w H h) (e:H a=some (.dT kvs)):kvs.length≤sizeLine∧(a==sysModules)=false∧
 ∃xs,KT H kvs xs∧h.DictOfH (tupleKind (aV P w)) a xs:=rY ok (.inl e)
end
def DGet (H:Hp) (a:Addr) (y:V) (r:Option V):Prop:=
 (∃kvs k,Rd H a (.dK kvs)∧y=kV k∧r=valV kvs k)∨∃kvs k b,Rd H a (.dT kvs)∧y= .ref b∧H b=some (.tup (k.map kV))∧r=valV kvs k
def DPut (H:Hp) (a:Addr) (y v:V) (H':Hp):Prop:=
 (∃kvs k,H a=some (.dK kvs)∧y=kV k∧kvs.length < sizeLine∧H'=upd H a (.dK (putK kvs k v)))∨
 ∃kvs k b,H a=some (.dT kvs)∧y= .ref b∧H b=some (.tup (k.map kV))∧kvs.length < sizeLine∧H'=upd H a (.dT (putK kvs k v))
theorem DGet.k {H:Hp} {a:Addr} {kvs:List (Key×V)} {k:Key} (e:H a=some (.dK kvs)):DGet H a (kV k) (valV kvs k):= .inl ⟨kvs,k, .inl e,rfl,rfl⟩
theorem DGet.t {H:Hp} {a b:Addr} {kvs:List (List Key×V)} {k:List Key} (e:H a=some (.dT kvs)) (eb:H b=some (.tup (k.map kV))):DGet H a (.ref b) (valV kvs k):= .inr ⟨kvs,k,b, .inl e,rfl,eb,rfl⟩
theorem DPut.k {H:Hp} {a:Addr} {kvs:List (Key×V)} {k:Key} {v:V} (e:H a=some (.dK kvs)) (hl:kvs.length < sizeLine):DPut H a (kV k) v (upd H a (.dK (putK kvs k v))):= .inl ⟨kvs,k,e,rfl,hl,rfl⟩
theorem DPut.t {H:Hp} {a b:Addr} {kvs:List (List Key×V)} {k:List Key} {v:V} (e:H a=some (.dT kvs)) (eb:H b=some (.tup (k.map kV))) (hl:kvs.length < sizeLine):
 DPut H a (.ref b) v (upd H a (.dT (putK kvs k v))):= .inr ⟨kvs,k,b,e,rfl,eb,hl,rfl⟩
section
variable {X:Cx} {pins:List (Addr×Obj)} {σ:St} {H:Hp} {s:Shared} {a:Addr} {y v:V} {u r:Value} {o:Option V} {A:Around} {E:Value→Shared→Prop}
theorem Inv.big (I:Inv X pins σ H s):sysModules < s.heap.objs.size:=by
 have h:mainGlobals < s.heap.objs.size:=(I.mod.glob.keeps I.bk).lt
 exact Nat.lt_trans (by decide) h
theorem d_in {Q:Value→Shared→Prop} (hu:A.units+1 < cLine) (I:Inv X pins σ H s) (g:DGet H a y o) (ry:RelV y u) (h:∀s',Inv X pins σ H s'→Q (.bool o.isSome) s'):
 wpAny (model X.prog X.w) A (compareOp .In u (.ref a)) Q E s:=by
 rcases g with ⟨kvs,k,e,ey,l⟩|⟨kvs,k,b,e,ey,eb,l⟩
 · subst ey
   obtain ⟨z,hd,vs,rel,dd⟩:=rZ I.hok e
   refine wpAny_in_of (oV ry) hd dd.mapOf ?_
   rw [←(rel.val k).isSome_eq,←l]
   exact h _ (I.tok _)
 · subst ey
   cases (show u=Value.ref b from ry)
   obtain ⟨z,hd,xs,rel,dd⟩:=rY I.hok e
   refine wpAny_in_heap (tupleKind_room_in1 hu) (fk I.hok eb) hd dd ?_
   have q:=(rel.val k).isSome_eq
   rw [Option.isSome_map] at q
   rw [←q,←l]
   exact h _ (I.tok _)
theorem il {h':Heap} {t':Nat} {ob:HO} (I:Inv X pins σ H s) (mu:Mut (H a)) (hs:Heap.SameBut a s.heap h') (he:∃q,h'.get? a=some q) (new:ObjOk X.prog X.w (upd H a ob) h' a ob):
 Inv X pins σ (upd H a ob) {s with heap:=h',toks:=t'}:=
 I.write (x:=a) (e:=a) mu (.inl rfl) (fun b q hb z=>(hs.2 b hb).trans z) he new
theorem tY {P:Program} {w:World} {H':Hp} {h':Heap} {kvs:List (Key×V)} {vs:List (Key×Value)} (z:kvs.length≤sizeLine) (hd:(a==sysModules)=false) (rel:KV kvs vs) (dd:h'.DictOf (aV P w) a vs):
 ObjOk P w H' h' a (.dK kvs):=⟨z,hd,vs,rel,dd⟩
theorem mI {H':Hp} {Q:Unit→Shared→Prop} (hu:A.units+1 < cLine) (I:Inv X pins σ H s) (g:DPut H a y v H') (ry:RelV y u) (rv:RelV v r) (h:∀s',Inv X pins σ H' s'→Q () s'):
 wpAny (model X.prog X.w) A (setItem (.ref a) u r) Q E s:=by
 rcases g with ⟨kvs,k,e,ey,l,eH⟩|⟨kvs,k,b,e,ey,eb,l,eH⟩
 · subst ey eH
   obtain ⟨z,hd,vs,rel,dd⟩:=pq I.hok e
   have hz:vs.length≤sizeLine:=by rw [←rel.length];exact z
   have hl:(putK kvs k v).length≤sizeLine:=by have:=eE kvs k v;omega
   refine wpAny_setItem_pairs (hsz:=hz) (oV ry) dd fun h' dd' hs=>h _ ?_
   have he:∃q,h'.get? a=some q:=let ⟨q,_,_,hq,_⟩:=dd';⟨q,hq⟩
   exact il I (by rw [e];exact True.intro) hs he (tY hl hd (rel.put k rv) dd')
 · subst ey eH
   cases (show u=Value.ref b from ry)
   obtain ⟨z,hd,xs,rel,dd⟩:=uR I.hok e
   have hz:xs.length≤sizeLine:=by rw [←Paired.length rel];exact z
   have hl:(putK kvs k v).length≤sizeLine:=by have:=eE kvs k v;omega
   refine wpAny_setItem_heap (hsz:=hz) (tupleKind_room_in1 hu) (fk I.hok eb) dd fun h' dd' hs=>h _ ?_
   obtain ⟨q,es,ep,hq,h2,h3,h4,_,h5⟩:=dd'
   refine il I (by rw [e];exact True.intro) hs ⟨q,hq⟩ ⟨hl,hd,_,(rel.put k eb rv).keeps fun c ys ec=> ?_,q,es,ep,hq,h2,h3,h4,h5⟩
   rw [aj (uH ec e (fun z=>nomatch z))]
   exact ec
end
section
variable {X:Cx} {pins:List (Addr×Obj)} {σ:St} {H:Hp} {s:Shared} {a:Addr} {kvs:List (Key×V)} {k:Key} {u:Value} {A:Around} {E:Value→Shared→Prop}
end
section
variable {X:Cx} {o i e value:Expr} {pos pos' tpos:Pos} {td ty tv:TE}
end
theorem pz {P:Program} {w:World} {H:Hp} (h:Heap) (hb:sysModules < h.objs.size):ObjOk P w H (h.push {cls:= .type "dict",data:= .dict #[]}) h.objs.size (.dK []):=
 ⟨vF _,beq_eq_false_iff_ne.mpr (Ne.symm (vf hb)),[], .nil,Heap.DictOf.new h⟩
def sy:TE:=fun _ H Q=>∀p,H p=none→Q (.ref p) (upd H p (.dK []))
section
variable {X:Cx} {pos:Pos}
theorem du:PE X (.Dict [] [] pos) sy:=fun pins s σ H Q I h=>
 wpAny_Dict_empty ⟨.ref s.heap.objs.size,_,I.laid (a:=s.heap.objs.size) (o:= .dK []) (t':=s.toks) (fun _ _ q=>Heap.get?_push_of_some _ q) (uW _) (pz s.heap I.big),rfl,h _ (I.hok.fresh (uW _))⟩
end
structure M1 (X:Cx) (o:Expr) (m:Str) (apos:Pos) (e:Expr) (cpos:Pos):Prop where
 base:attributeBase o m X.env (eval o X.env)=eval o X.env
 few:((backTo cpos (starEach [e] X.env)).all (fun x=> !x.1)&& (backToKw cpos (keywordEach [] X.env)).all (fun x=>x.1.isSome)
  &&decide (([e]:List Expr).length+([]:List Keyword).length+(if ([]:List Keyword).isEmpty then 0 else 1) < 30))=true
 line:(apos.endLine==cpos.line)=true
 trees:backTo cpos (starEach [e] X.env)= [(false,eval e X.env)]
structure M2 (X:Cx) (o:Expr) (m:Str) (apos:Pos) (e f:Expr) (cpos:Pos):Prop where
 base:attributeBase o m X.env (eval o X.env)=eval o X.env
 few:((backTo cpos (starEach [e,f] X.env)).all (fun x=> !x.1)&& (backToKw cpos (keywordEach [] X.env)).all (fun x=>x.1.isSome)
  &&decide (([e,f]:List Expr).length+([]:List Keyword).length+(if ([]:List Keyword).isEmpty then 0 else 1) < 30))=true
 line:(apos.endLine==cpos.line)=true
 trees:backTo cpos (starEach [e,f] X.env)= [(false,eval e X.env),(false,eval f X.env)]
section
variable {X:Cx} {pins:List (Addr×Obj)} {σ:St} {H:Hp} {s:Shared} {a:Addr} {y d:V} {u r:Value} {o:Option V} {A:Around} {E:Value→Shared→Prop}
end
section
variable {X:Cx} {o e f:Expr} {apos cpos:Pos} {td ty tx:TE}
end
section
variable {X:Cx} {pins:List (Addr×Obj)} {σ:St} {H:Hp} {s:Shared} {a:Addr} {kvs:List (Key×V)} {A:Around} {E:Value→Shared→Prop}
end
section
variable {X:Cx} {pins:List (Addr×Obj)} {σ:St} {H:Hp} {s:Shared} {a:Addr} {y:V} {u:Value} {A:Around} {E:Value→Shared→Prop}
end
open PySem PySem.Spec PyProof.Rows
def jg (J:It) (D:Addr) (te:TE) (rest:L2.St) (Q:VK) (H1:Hp):Prop:=
 ∃W:Nat→Nat→List V→Hp→Prop,(∃m,W 0 m [] (upd H1 D (.lst [])))∧∀i m acc H2,W i m acc H2→
  (J.stop i H2∧Q (.ref D) H2)∨
  (J.go i H2∧∀x H3,J.yld i H2 x H3→bB 0 x (none::rest) H3 fun σ4 H4=>Ext (none::rest) σ4∧dh σ4 H4 fun b H5=>if b=true then te σ4 H5 fun v H6=>H6 D=some (.lst acc)∧acc.length < sizeLine∧∃m',m' < m∧W (i+1) m' (acc++ [v]) (upd H6 D (.lst (acc++ [v])))
   else∃m',m' < m∧W (i+1) m' acc H5)
theorem iz {mp:List (Option Nat)} {wi:TI} {te:TE} {σ rest:L2.St} {H:Hp} {Q:VK} (e:subS mp σ=none::rest) (h:wi σ H fun J H1=>∀D,H1 D=none→jg J D te rest Q H1):di mp wi (bB 0) dh te σ H Q:=by
 unfold di
 rw [e]
 exact h
def CompN (n i:Nat) (D:Addr) (acc:List V) (Pv:Nat→List V→Hp→Prop):VK:=fun v H6=>H6 D=some (.lst acc)∧acc.length < sizeLine∧∃m',m' < n - i∧(m'=n - (i+1)∧i+1≤n∧Pv (i+1) (acc++ [v]) (upd H6 D (.lst (acc++ [v]))))
theorem CompN.mk {n i:Nat} {D:Addr} {acc:List V} {Pv:Nat→List V→Hp→Prop} {v:V} {H6:Hp} (hi:i < n) (hl:acc.length < sizeLine) (h1:H6 D=some (.lst acc)) (h2:Pv (i+1) (acc++ [v]) (upd H6 D (.lst (acc++ [v])))):CompN n i D acc Pv v H6:=
 ⟨h1,hl,n - (i+1),by omega,rfl,hi,h2⟩
theorem qY {J:It} {D:Addr} {te:TE} {rest:L2.St} {Q:VK} {H1:Hp} (n:Nat) (Pv:Nat→List V→Hp→Prop) (h0:Pv 0 [] (upd H1 D (.lst [])))
 (hgo:∀i acc H,i < n→Pv i acc H→J.go i H)
 (hs:∀i x acc H H',i < n→Pv i acc H→J.yld i H x H'→te (some x::rest) H' (CompN n i D acc Pv))
 (hd:∀acc H,Pv n acc H→J.stop n H∧Q (.ref D) H):jg J D te rest Q H1:=by
 refine ⟨fun i m acc H=>m=n - i∧i≤n∧Pv i acc H,⟨n,by simp,vF _,h0⟩,?_⟩
 rintro i m acc H ⟨rfl,hi,p⟩
 by_cases hlt:i < n
 · refine .inr ⟨hgo i acc H hlt p,fun x H' y=> ?_⟩
   refine ⟨ext1,?_⟩
   show (if true=true then te (some x::rest) H' (CompN n i D acc Pv) else∃m',m' < n - i∧(m'=n - (i+1)∧i+1≤n∧Pv (i+1) acc H'))
   exact iteT (hs i x acc H H' hlt p y)
 · have e:i=n:=by omega
   subst e
   exact .inl (hd acc H p)
theorem gJ {K:PySem.W.Frag} {a D:Addr} {xs:List V} {te:TE} {rest:L2.St} {Q:VK} {H1:Hp} (Pv:Nat→List V→Hp→Prop) (h0:Pv 0 [] (upd H1 D (.lst [])))
 (hl:∀i acc H,Pv i acc H→SqL K H a xs)
 (hs:∀i x acc H,i < xs.length→xs[i]?=some x→Pv i acc H→te (some x::rest) H (CompN xs.length i D acc Pv))
 (hd:∀acc H,Pv xs.length acc H→Q (.ref D) H):jg (Itl K a) D te rest Q H1:=by
 refine qY xs.length Pv h0 (fun i acc H hi p=>⟨xs,xs[i],hl i acc H p,by simp [hi]⟩) (fun i x acc H H' hi p y=> ?_) fun acc H p=>⟨⟨xs,hl _ acc H p,uW _⟩,hd acc H p⟩
 obtain ⟨e,y⟩:=y
 subst e
 exact hs i x acc _ hi (y xs (hl i acc _ p)) p
end L2
namespace Tk
open PySem PySem.Spec PyProof.Rows L2
inductive KT where
 |lf (k:Key)
 |tp (ts:List KT)
noncomputable instance:DecidableEq KT:=Classical.typeDecidableEq KT
mutual
noncomputable def KT.depth:KT→Nat
 | .lf _=>0
 | .tp ts=>KTs.depth ts+1
noncomputable def KTs.depth:List KT→Nat
 | []=>0
 |t::ts=>max (KT.depth t) (KTs.depth ts)
end
theorem df:∀ {ts:List KT} {t:KT},t∈ts→t.depth≤KTs.depth ts
 |a::ts,t,h=>by
  unfold KTs.depth
  rcases vd.mp h with rfl|h
  · omega
  · have:=df h
    omega
mutual
def KAt (h:Heap):Value→KT→Prop
 |v, .lf k=>eI k v=true
 |v, .tp ts=>∃a o items n,v= .ref a∧h.get? a=some o∧o.cls= .type "tuple"∧o.data= .seq items n∧KsAt h items.toList ts
def KsAt (h:Heap):List Value→List KT→Prop
 |vs,[]=>vs= []
 |vs,t::ts=>∃v r,vs=v::r∧KAt h v t∧KsAt h r ts
end
mutual
theorem KAt.keep {h h':Heap} (k:∀a o items n,h.get? a=some o→o.data= .seq items n→h'.get? a=some o):∀ {v:Value} {t:KT},KAt h v t→KAt h' v t
 |v, .lf k,x=>by unfold KAt at x ⊢;exact x
 |v, .tp ts,x=>by
  unfold KAt at x ⊢
  obtain ⟨a,o,items,n,e,g,c,d,r⟩:=x
  exact ⟨a,o,items,n,e,k a o items n g d,c,d,KsAt.keep k r⟩
theorem KsAt.keep {h h':Heap} (k:∀a o items n,h.get? a=some o→o.data= .seq items n→h'.get? a=some o):∀ {vs:List Value} {ts:List KT},KsAt h vs ts→KsAt h' vs ts
 |vs,[],x=>by unfold KsAt at x ⊢;exact x
 |vs,t::ts,x=>by
  unfold KsAt at x ⊢
  obtain ⟨v,r,e,x1,x2⟩:=x
  exact ⟨v,r,e,KAt.keep k x1,KsAt.keep k x2⟩
end
mutual
theorem KAt.det {h:Heap}:∀ {v:Value} {t u:KT},KAt h v t→KAt h v u→t=u
 |v, .lf k, .lf j,x,y=>by
  unfold KAt at x y
  rcases aH x with ⟨i,t,rfl,rfl⟩|⟨x',t,rfl,rfl⟩
  · rcases aH y with ⟨i',t',rfl,e⟩|⟨y',t',rfl,e⟩
    · injection e with e1 _
      rw [e1]
    · cases e
  · rcases aH y with ⟨i',t',rfl,e⟩|⟨y',t',rfl,e⟩
    · cases e
    · injection e with e1 _
      rw [e1]
 |v, .lf k, .tp us,x,y=>by
  unfold KAt at x y
  obtain ⟨a,o,items,n,rfl,_⟩:=y
  rcases aH x with ⟨i,t,rfl,e⟩|⟨x',t,rfl,e⟩<;>cases e
 |v, .tp ts, .lf k,x,y=>by
  unfold KAt at x y
  obtain ⟨a,o,items,n,rfl,_⟩:=x
  rcases aH y with ⟨i,t,rfl,e⟩|⟨x',t,rfl,e⟩<;>cases e
 |v, .tp ts, .tp us,x,y=>by
  unfold KAt at x y
  obtain ⟨a,o,items,n,rfl,g,c,d,r⟩:=x
  obtain ⟨a',o',items',n',e,g',c',d',r'⟩:=y
  injection e with e
  subst e
  rw [g] at g'
  cases g'
  rw [d] at d'
  injection d' with d1 _
  subst d1
  rw [KsAt.det r r']
theorem KsAt.det {h:Heap}:∀ {vs:List Value} {ts us:List KT},KsAt h vs ts→KsAt h vs us→ts=us
 |vs,[],[],_,_=>rfl
 |vs,[],u::us,x,y=>by
  unfold KsAt at x y
  obtain ⟨v,r,e,_⟩:=y
  rw [x] at e
  cases e
 |vs,t::ts,[],x,y=>by
  unfold KsAt at x y
  obtain ⟨v,r,e,_⟩:=x
  rw [y] at e
  cases e
 |vs,t::ts,u::us,x,y=>by
  unfold KsAt at x y
  obtain ⟨v,r,rfl,x1,x2⟩:=x
  obtain ⟨v',r',e,y1,y2⟩:=y
  cases e
  rw [KAt.det x1 y1,KsAt.det x2 y2]
end
theorem KsAt.len {h:Heap}:∀ {vs:List Value} {ts:List KT},KsAt h vs ts→vs.length=ts.length
 |vs,[],x=>by unfold KsAt at x;rw [x];rfl
 |vs,t::ts,x=>by
  unfold KsAt at x
  obtain ⟨v,r,rfl,_,x2⟩:=x
  rw [uU,uU,KsAt.len x2]
theorem KsAt.get {h:Heap}:∀ {vs:List Value} {ts:List KT} {j:Nat} {v:Value},KsAt h vs ts→vs[j]?=some v→∃t,ts[j]?=some t∧KAt h v t
 |vs,[],j,v,x,e=>by
  unfold KsAt at x
  rw [x] at e
  cases e
 |vs,t::ts,0,v,x,e=>by
  unfold KsAt at x
  obtain ⟨v',r,rfl,x1,_⟩:=x
  cases e
  exact ⟨t,rfl,x1⟩
 |vs,t::ts,j+1,v,x,e=>by
  unfold KsAt at x
  obtain ⟨v',r,rfl,_,x2⟩:=x
  exact KsAt.get (j:=j) x2 e
section
variable (prog:Program) (w:World)
mutual
noncomputable def KT.hash:KT→Int
 | .lf k=>(aV prog w).hash k
 | .tp ts=>reduceHash (Builtin.Tuple.tupleHashOf (KTs.hash ts))
noncomputable def KTs.hash:List KT→List Int
 | []=> []
 |t::ts=>KT.hash t::KTs.hash ts
end
end
mutual
noncomputable def KT.draws:KT→Nat
 | .lf _=>1
 | .tp ts=>KTs.draws ts+1
noncomputable def KTs.draws:List KT→Nat
 | []=>0
 |t::ts=>KT.draws t+KTs.draws ts
end
theorem iV (prog:Program) (w:World):∀(a b:List KT),KTs.hash prog w (a++b)=KTs.hash prog w a++KTs.hash prog w b
 | [],b=>by simp [KTs.hash]
 |t::a,b=>by simp [KTs.hash,iV prog w a b]
theorem gI:∀(a b:List KT),KTs.draws (a++b)=KTs.draws a+KTs.draws b
 | [],b=>by simp [KTs.draws]
 |t::a,b=>by simp [KTs.draws,gI a b,Nat.add_assoc]
section
variable {prog:Program} {w:World}
theorem qO:∀(n:Nat) {A:Around} {E:Value→Shared→Prop} {s:Shared} {t:KT} {v:Value} {Q:Int→Shared→Prop},t.depth≤n→A.units+n < cLine→KAt s.heap v t→Q (t.hash prog w) {s with toks:=s.toks+t.draws}→wpAny (model prog w) A (pyHash v) Q E s:=by
 intro n
 induction n with
 |zero=>
  intro A E s t v Q hd hu hk h
  cases t with
  |tp ts=>simp [KT.depth] at hd
  |lf k=>
   unfold KAt at hk
   simp only [KT.hash,KT.draws] at h
   exact (aV prog w).pyHash hk h
 |succ n ih=>
  intro A E s t v Q hd hu hk h
  cases t with
  |lf k=>
   unfold KAt at hk
   simp only [KT.hash,KT.draws] at h
   exact (aV prog w).pyHash hk h
  |tp ts=>
   unfold KAt at hk
   obtain ⟨a,o,items,m,rfl,g,c,d,r⟩:=hk
   have ty:s.TypeIs (.ref a) "tuple":=⟨o,g,c⟩
   have hd':KTs.depth ts≤n:=by
    unfold KT.depth at hd
    omega
   simp only [KT.hash,KT.draws] at h
   unfold pyHash
   unfold pyHashByItsType
   refine wpAny_bind (wpAny_cRoomFor_or (.inr (by omega)) (wpAny_bind (wpAny_specialOf ty F.slot_tuple_hash.lookup ?_)))
   show wpAny _ _ (if (some (Value.builtin "tuple.__hash__")==some Value.none)=true then _ else _) _ _ _
   rw [if_neg (fun z=>by rw [beq_builtin_none] at z;cases z)]
   refine wpAny_bind (wpAny_specialOf ty F.slot_tuple_hash.lookup ?_)
   show wpAny _ _ (do let y←callSpecialIfBoundUnlessNone? (.ref a) "__hash__" _;_) _ _ _
   refine wpAny_bind (wpAny_callSpecialIfBoundUnlessNone?_slot ty F.slot_tuple_hash (wpAny_call_entry F.slot_tuple_hash ty F.entry_tuple_hash ?_ (F.args_tuple_hash_1 _)))
   show wpAny _ _ (do let y←Builtin.Tuple.tupleItemsOf (.ref a);_) _ _ _
   refine wpAny_bind (wpAny_tupleItemsOf g d (wpAny_bind ?_))
   rw [←Array.forIn_toList]
   refine wpAny_forIn_list _ (fun rest (b:Array Int) s'=>∃done left,ts=done++left∧KsAt s.heap rest left∧b.toList=KTs.hash prog w done∧s'= {s with toks:=s.toks+KTs.draws done}) _ ?_ ?_ _ _ ⟨[],ts,rfl,r,rfl,by simp [KTs.draws]⟩
   · rintro x rest b s' ⟨done,left,rfl,hl,hb,rfl⟩
     cases left with
     |nil=>
      unfold KsAt at hl
      cases hl
     |cons t left=>
      unfold KsAt at hl
      obtain ⟨v,rr,e,h1,h2⟩:=hl
      cases e
      have dt:t.depth≤n:=by
       have:=df (show t∈done++t::left by simp)
       omega
      refine wpAny_bind (ih (s:= {s with toks:=s.toks+KTs.draws done}) dt (by first|(show A.units+1+n < cLine;omega)|(show A.units+n < cLine;omega)) h1 ?_)
      have fin:∃done' left',done++t::left=done'++left'∧KsAt s.heap rest left'∧(b.push (KT.hash prog w t)).toList=KTs.hash prog w done'∧({s with toks:=s.toks+KTs.draws done+t.draws}:Shared)= {s with toks:=s.toks+KTs.draws done'}:=by
       refine ⟨done++ [t],left,by simp,h2,by rw [iV,Array.toList_push,hb];simp [KTs.hash],?_⟩
       rw [gI]
       simp [KTs.draws,Nat.add_assoc]
      first
       |exact wpAny_pure fin
       |exact wpAny_bind (wpAny_pure (wpAny_pure fin))
   · rintro b s' ⟨done,left,rfl,hl,hb,rfl⟩
     cases left with
     |cons t left=>
      unfold KsAt at hl
      obtain ⟨v,rr,e,_⟩:=hl
      cases e
     |nil=>
      rw [vB] at h
      show wpAny _ _ (retInt (Builtin.Tuple.tupleHashOf b.toList)) _ _ _
      rw [hb]
      refine wpAny_ret_mkInt ?_
      show wpAny _ _ (if (decide (-(2:Int)^63≤Builtin.Tuple.tupleHashOf (KTs.hash prog w done))&&decide (Builtin.Tuple.tupleHashOf (KTs.hash prog w done) < 2^63))=true then _ else _) _ _ _
      unfold reduceHash at h
      by_cases hr:(decide (-(2:Int)^63≤Builtin.Tuple.tupleHashOf (KTs.hash prog w done))&&decide (Builtin.Tuple.tupleHashOf (KTs.hash prog w done) < 2^63))=true
      · rw [if_pos hr] at h ⊢
        exact wpAny_pure (by simpa [Nat.add_assoc] using h)
      · rw [if_neg hr] at h ⊢
        exact wpAny_bind (wpAny_rule (wpAny_pure (by simpa [Nat.add_assoc] using h)))
end
open PySem PySem.Spec PyProof.Rows L2
theorem rj {ts us:List KT}:((List.range (min ts.length us.length)).all (fun j=>decide (ts[j]?=us[j]?))&&ts.length==us.length)=decide (ts=us):=by
 by_cases h:ts=us
 · subst h
   simp
 · rw [decide_eq_false h]
   by_cases hl:ts.length=us.length
   · have:∃j,j < ts.length∧ts[j]?≠us[j]?:=by
      refine Classical.byContradiction fun n=>h (List.ext_getElem? fun j=> ?_)
      by_cases hj:j < ts.length
      · exact Classical.byContradiction fun z=>n ⟨j,hj,z⟩
      · rw [List.getElem?_eq_none (by omega),List.getElem?_eq_none (by omega)]
     obtain ⟨j,hj,ne⟩:=this
     rw [Bool.and_eq_false_iff]
     left
     refine List.all_eq_false.mpr ⟨j,vG.mpr (by omega),?_⟩
     simp [ne]
   · rw [Bool.and_eq_false_iff]
     right
     simp [hl]
theorem uQ:∀(n:Nat) {A:Around} {s:Shared} {t u:KT} {a b:Value},t.depth≤n→A.units+n+1 < cLine→KAt s.heap a t→KAt s.heap b u→SeqAt.EqAt A s a b (decide (t=u)):=by
 intro n
 induction n with
 |zero=>
  intro A s t u a b hd hu h1 h2
  cases t with
  |tp ts=>simp [KT.depth] at hd
  |lf k=>
   unfold KAt at h1
   cases u with
   |lf j=>
    unfold KAt at h2
    intro prog w E Q q
    refine (aV prog w).eqBool h1 h2 ?_
    have e:decide (k=j)=decide (KT.lf k=KT.lf j):=by simp
    rw [e]
    exact q
   |tp us=>
    unfold KAt at h2
    obtain ⟨r,o,items,m,rfl,g,c,d,_⟩:=h2
    rw [decide_eq_false (by intro z;cases z)]
    rcases aH h1 with ⟨i,t,rfl,rfl⟩|⟨x,t,rfl,rfl⟩
    · exact SeqAt.EqAt.int_tuple i t (items:=items) ⟨o,g,c,m,d⟩ (by omega)
    · exact SeqAt.EqAt.str_tuple x t (items:=items) ⟨o,g,c,m,d⟩ (by omega)
 |succ n ih=>
  intro A s t u a b hd hu h1 h2
  cases t with
  |lf k=>
   unfold KAt at h1
   cases u with
   |lf j=>
    unfold KAt at h2
    intro prog w E Q q
    refine (aV prog w).eqBool h1 h2 ?_
    have e:decide (k=j)=decide (KT.lf k=KT.lf j):=by simp
    rw [e]
    exact q
   |tp us=>
    unfold KAt at h2
    obtain ⟨r,o,items,m,rfl,g,c,d,_⟩:=h2
    rw [decide_eq_false (by intro z;cases z)]
    rcases aH h1 with ⟨i,t,rfl,rfl⟩|⟨x,t,rfl,rfl⟩
    · exact SeqAt.EqAt.int_tuple i t (items:=items) ⟨o,g,c,m,d⟩ (by omega)
    · exact SeqAt.EqAt.str_tuple x t (items:=items) ⟨o,g,c,m,d⟩ (by omega)
  |tp ts=>
   have h1':=h1
   have h2':=h2
   unfold KAt at h1
   obtain ⟨r,o,items,m,rfl,g,c,d,k1⟩:=h1
   cases u with
   |lf j=>
    unfold KAt at h2
    rw [decide_eq_false (by intro z;cases z)]
    rcases aH h2 with ⟨i,t,rfl,rfl⟩|⟨x,t,rfl,rfl⟩
    · exact SeqAt.EqAt.tuple_int i t (items:=items) ⟨o,g,c,m,d⟩ (by omega)
    · exact SeqAt.EqAt.tuple_str x t (items:=items) ⟨o,g,c,m,d⟩ (by omega)
   |tp us=>
    unfold KAt at h2
    obtain ⟨r',o',items',m',rfl,g',c',d',k2⟩:=h2
    by_cases z:r=r'
    · subst z
      rw [decide_eq_true (KAt.det h1' h2')]
      exact SeqAt.EqAt.same _
    · have hd':KTs.depth ts≤n:=by
       unfold KT.depth at hd
       omega
      have l1:=k1.len
      have l2:=k2.len
      have:=SeqAt.RcAt.tuples (A:=A) (e:=fun j=>decide (ts[j]?=us[j]?)) (show s.heap.IsTuple r items from ⟨o,g,c,m,d⟩) (show s.heap.IsTuple r' items' from ⟨o',g',c',m',d'⟩) (by omega) fun j g1 g2=>by
       obtain ⟨t1,e1,a1⟩:=k1.get (j:=j) (v:=items[j]) (by rw [vE];simp [g1])
       obtain ⟨t2,e2,a2⟩:=k2.get (j:=j) (v:=items'[j]) (by rw [vE];simp [g2])
       have e:decide (ts[j]?=us[j]?)=decide (t1=t2):=by rw [e1,e2];simp
       rw [e]
       refine ih (A:=A.in1) ?_ (by show A.units+1+n+1 < cLine;omega) a1 a2
       have:=df (vi e1)
       omega
      have hs1:items.size=ts.length:=by rw [←l1,vy]
      have hs2:items'.size=us.length:=by rw [←l2,vy]
      rw [hs1,hs2,rj] at this
      have e:decide (KT.tp ts=KT.tp us)=decide (ts=us):=by simp
      rw [e]
      exact SeqAt.EqAt.of_refs z this
theorem o3:∀(n:Nat) {prog:Program} {w:World} {A:Around} {E:Value→Shared→Prop} {s:Shared} {t:KT} {v:Value} {Q:Bool→Shared→Prop},KAt s.heap v t→t.depth≤n→Q true s→wpAny (model prog w) A (eqIsQuiet n v) Q E s:=by
 have leaf:∀(n:Nat) {prog:Program} {w:World} {A:Around} {E:Value→Shared→Prop} {s:Shared} {k:Key} {v:Value} {Q:Bool→Shared→Prop},eI k v=true→Q true s→wpAny (model prog w) A (eqIsQuiet n v) Q E s:=by
  intro n prog w A E s k v Q h q
  rw [eqIsQuiet_byValue _ ((aV prog w).byValue k v h)]
  exact wpAny_pure q
 intro n
 induction n with
 |zero=>
  intro prog w A E s t v Q h hd q
  cases t with
  |tp ts=>simp [KT.depth] at hd
  |lf k=>
   unfold KAt at h
   exact leaf 0 h q
 |succ n ih=>
  intro prog w A E s t v Q h hd q
  cases t with
  |lf k=>
   unfold KAt at h
   exact leaf _ h q
  |tp ts=>
   unfold KAt at h
   obtain ⟨a,o,items,m,rfl,g,c,d,r⟩:=h
   have ty:s.TypeIs (.ref a) "tuple":=⟨o,g,c⟩
   have hd':KTs.depth ts≤n:=by
    unfold KT.depth at hd
    omega
   unfold eqIsQuiet
   refine wpAny_bind (wpAny_specialOf ty F.slot_tuple_eq.lookup ?_)
   show wpAny _ _ (do let y←isInstance (.ref a) (.type "tuple");_) _ _ _
   refine wpAny_bind (wpAny_isInstance ty isSubtype_tuple_tuple ?_)
   simp only [Bool.not_true,if_false,Bool.false_eq_true]
   refine wpAny_bind (wpAny_seqItems g d (wpAny_bind ?_))
   show wpAny _ _ (forIn items _ _) _ _ _
   rw [←Array.forIn_toList]
   refine wpAny_forIn_list _ (fun rest b s'=>b.1=none∧s'=s∧∃left,KsAt s.heap rest left∧KTs.depth left≤n) _ ?_ ?_ _ _ ⟨rfl,rfl,ts,r,hd'⟩
   · rintro x rest b s' ⟨hb,rfl,left,hl,hd2⟩
     cases left with
     |nil=>
      unfold KsAt at hl
      cases hl
     |cons t left=>
      unfold KsAt at hl
      obtain ⟨v,rr,e,h1,h2⟩:=hl
      cases e
      unfold KTs.depth at hd2
      refine wpAny_bind (ih h1 (by omega) ?_)
      simp only [Bool.not_true,if_false,Bool.false_eq_true]
      exact wpAny_pure ⟨rfl,rfl,left,h2,by omega⟩
   · rintro ⟨b1,b2⟩ s' ⟨hb,rfl,_⟩
     simp only at hb
     subst hb
     exact wpAny_pure q
noncomputable def treeKind (prog:Program) (w:World):HeapKind prog w (List KT) where
 is:=fun h ts a=>KAt h (.ref a) (.tp ts)∧(KT.tp ts).depth≤8
 hash:=fun ts=>(KT.tp ts).hash prog w
 draws:=fun ts=>(KT.tp ts).draws
 room:=fun A=>A.units+20 < cLine
 inj:=fun x y=>by
  have:=KAt.det x.1 y.1
  injection this
 keeps:=fun {h h' k a d o es ep} x g hd sb=>⟨x.1.keep fun b ob items n e dt=>by
  have ne:b≠d:=fun z=>by
   subst z
   rw [g] at e
   cases e
   rw [hd] at dt
   cases dt
  exact (sb.2 b ne).trans e,x.2⟩
 pyHash:=fun hu x q=>qO 8 x.2 (by omega) x.1 q
 eqBool:=fun {A E s x y a b Q} hu hx hy q=>by
  refine uQ 8 (t:= .tp x) (u:= .tp y) hx.2 (by omega) hx.1 hy.1 prog w E Q ?_
  have e:decide (KT.tp x=KT.tp y)=decide (x=y):=by simp
  rw [e]
  exact q
 quiet:=fun x q=>o3 8 x.1 x.2 q
end Tk
namespace Dj
open PySem PySem.Spec PyProof.Rows L2 Tre
def SqX (K:PySem.W.Frag) (H:Hp) (a:Addr) (xs:List V):Prop:=
 H a=some (.tup xs)∨∃(o:Obj) (its:Array Value) (n:Nat),K.lookup a=some o∧o.cls= .type "tuple"∧o.data= .seq its n∧its.size≤sizeLine∧Vals xs its.toList
theorem SqX.mono {K:PySem.W.Frag} {H H':Hp} {a:Addr} {xs:List V} (d:Kd H H') (h:SqX K H a xs):SqX K H' a xs:=h.elim (fun e=> .inl (d.tup _ _ e)) .inr
mutual
def KVt (K:PySem.W.Frag) (H:Hp):V→Tk.KT→Prop
 |v, .lf (.inl i)=>v= .int i
 |v, .lf (.inr x)=>v= .str x
 |v, .tp ts=>∃r vs,v= .ref r∧SqX K H r vs∧KVts K H vs ts
def KVts (K:PySem.W.Frag) (H:Hp):List V→List Tk.KT→Prop
 |vs,[]=>vs= []
 |vs,t::ts=>∃v r,vs=v::r∧KVt K H v t∧KVts K H r ts
end
section
variable {P:Program} {w:World} {K:PySem.W.Frag} {H H':Hp} {h:Heap}
mutual
theorem KVt.mono (d:Kd H H'):∀ {v:V} {t:Tk.KT},KVt K H v t→KVt K H' v t
 |v, .lf (.inl i),a=>by unfold KVt at a ⊢;exact a
 |v, .lf (.inr x),a=>by unfold KVt at a ⊢;exact a
 |v, .tp ts,a=>by
  unfold KVt at a ⊢
  obtain ⟨r,vs,e,s,q⟩:=a
  exact ⟨r,vs,e,s.mono d,KVts.mono d q⟩
theorem KVts.mono (d:Kd H H'):∀ {vs:List V} {ts:List Tk.KT},KVts K H vs ts→KVts K H' vs ts
 |vs,[],a=>by unfold KVts at a ⊢;exact a
 |vs,t::ts,a=>by
  unfold KVts at a ⊢
  obtain ⟨v,r,e,a1,a2⟩:=a
  exact ⟨v,r,e,KVt.mono d a1,KVts.mono d a2⟩
end
theorem sA (ok:HOk P w H h) (kin:K.In h) {q:Addr} {vs:List V} (e:SqX K H q vs):∃its:List Value,Vals vs its∧∃o n,h.get? q=some o∧o.cls= .type "tuple"∧o.data= .seq its.toArray n:=by
 rcases e with e|⟨o,its,n,hk,hc,hs,hz,r⟩
 · obtain ⟨_,its,rv,o,h1,h2,n,h3⟩:=(show ObjOk P w H h q (.tup vs) from ok q _ e)
   exact ⟨its,rv,o,n,h1,h2,h3⟩
 · exact ⟨its.toList,r,o,n,kin q o hk,hc,by simpa using hs⟩
mutual
theorem oU (ok:HOk P w H h) (kin:K.In h):∀ {v:V} {t:Tk.KT} {u:Value},KVt K H v t→RelV v u→Tk.KAt h u t
 |v, .lf (.inl i),u,a,r=>by
  unfold KVt at a
  subst a
  obtain ⟨t,rfl⟩:=r
  simp only [Tk.KAt]
  exact gw i t
 |v, .lf (.inr x),u,a,r=>by
  unfold KVt at a
  subst a
  obtain ⟨t,rfl⟩:=r
  simp only [Tk.KAt]
  exact gv x t
 |v, .tp ts,u,a,r=>by
  unfold KVt at a
  obtain ⟨q,vs,rfl,e,as⟩:=a
  obtain rfl:u=Value.ref q:=r
  obtain ⟨its,rv,o,n,h1,h2,h3⟩:=sA ok kin e
  simp only [Tk.KAt]
  exact ⟨q,o,its.toArray,n,rfl,h1,h2,h3,by simpa using kats_of ok kin as rv⟩
theorem kats_of (ok:HOk P w H h) (kin:K.In h):∀ {vs:List V} {ts:List Tk.KT} {us:List Value},KVts K H vs ts→Vals vs us→Tk.KsAt h us ts
 |vs,[],us,a,r=>by
  unfold KVts at a
  subst a
  cases r
  simp [Tk.KsAt]
 |vs,t::ts,us,a,r=>by
  unfold KVts at a
  obtain ⟨v,q,rfl,a1,a2⟩:=a
  cases r with
  |cons r1 r2=>
   simp only [Tk.KsAt]
   exact ⟨_,_,rfl,oU ok kin a1 r1,kats_of ok kin a2 r2⟩
end
end
def KeyAt (K:PySem.W.Frag) (H:Hp) (k:List Tk.KT) (b:Addr):Prop:=∃vs,SqX K H b vs∧KVts K H vs k∧(Tk.KT.tp k).depth≤8
theorem KeyAt.mono {K:PySem.W.Frag} {H H':Hp} {k:List Tk.KT} {b:Addr} (d:Kd H H') (h:KeyAt K H k b):KeyAt K H' k b:=by
 obtain ⟨ts,h1,h2,h3⟩:=h
 exact ⟨ts,h1.mono d,h2.mono d,h3⟩
theorem KeyAt.is {P:Program} {w:World} {K:PySem.W.Frag} {H:Hp} {h:Heap} {k:List Tk.KT} {b:Addr} (ok:HOk P w H h) (kin:K.In h) (x:KeyAt K H k b):(Tk.treeKind P w).is h k b:=by
 obtain ⟨vs,h1,h2,h4⟩:=x
 have:=oU ok kin (v:= .ref b) (t:= .tp k) (u:= .ref b) (by unfold KVt;exact ⟨b,vs,rfl,h1,h2⟩) rfl
 exact ⟨this,h4⟩
abbrev Ent:=List Tk.KT×Addr×V
abbrev RE:List Ent→List (List Tk.KT×Addr×Value)→Prop:=Paired fun p q=>p.1=q.1∧p.2.1=q.2.1∧RelV p.2.2 q.2.2
noncomputable def dJ (P:Program) (w:World) (a:Addr) (kvs:List Ent):HO:= .ext fun h=>kvs.length≤sizeLine∧(a==sysModules)=false∧
 ∃xs:List (List Tk.KT×Addr×Value),RE kvs xs∧∃o es ep,h.get? a=some o∧o.ExactDict∧o.data= .dict es ep∧es.toList=xs.map (entryOfKey (Tk.treeKind P w))∧(xs.map (·.1)).Nodup
structure DJ (P:Program) (w:World) (K:PySem.W.Frag) (H:Hp) (a:Addr) (kvs:List Ent):Prop where
 at_:H a=some (dJ P w a kvs)
 keys:∀p∈kvs,KeyAt K H p.1 p.2.1
noncomputable def valJ (kvs:List Ent) (k:List Tk.KT):Option V:=(kvs.find? fun p=>decide (p.1=k)).map (·.2.2)
noncomputable def putJ (kvs:List Ent) (k:List Tk.KT) (b:Addr) (v:V):List Ent:=
 if (valJ kvs k).isSome then kvs.map (fun p=>if p.1=k then (p.1,p.2.1,v) else p) else kvs++ [(k,b,v)]
theorem mY {k:List Tk.KT}:valJ [] k=none:=rfl
theorem iw {p:Ent} {r:List Ent} {k:List Tk.KT} (e:p.1=k):valJ (p::r) k=some p.2.2:=by simp [valJ,vC,e]
theorem ix {p:Ent} {r:List Ent} {k:List Tk.KT} (e:¬p.1=k):valJ (p::r) k=valJ r k:=by simp [valJ,vC,e]
theorem iT (kvs:List Ent) (k:List Tk.KT) (b:Addr) (v:V):(putJ kvs k b v).length≤kvs.length+1:=by
 unfold putJ
 split
 · rw [uT];omega
 · rw [vc,uU,vR];omega
theorem RE.val {kvs:List Ent} {xs:List (List Tk.KT×Addr×Value)} (r:RE kvs xs) (k:List Tk.KT):RelO (valJ kvs k) ((atKey xs k).map (·.2)):=by
 induction r with
 |nil=>exact True.intro
 | @cons p q ps qs h t ih=>
  obtain ⟨h1,_,h2⟩:=h
  by_cases e:p.1=k
  · have e':q.1=k:=h1.symm.trans e
    have b:atKey (q::qs) k=some q.2:=by simp [atKey,vC,e']
    rw [iw e,b];exact h2
  · have e':¬q.1=k:=fun z=>e (h1.trans z)
    have b:atKey (q::qs) k=atKey qs k:=by simp [atKey,vC,e']
    rw [ix e,b];exact ih
theorem RE.repl {kvs:List Ent} {xs:List (List Tk.KT×Addr×Value)} (r:RE kvs xs) (k:List Tk.KT) {y:V} {u:Value} (ry:RelV y u):
 RE (kvs.map fun p=>if p.1=k then (p.1,p.2.1,y) else p) (xs.map (putAt k u)):=by
 induction r with
 |nil=>exact .nil
 | @cons p q ps qs h t ih=>
  rw [uZ,uZ]
  refine .cons ?_ ih
  obtain ⟨h1,h2,h3⟩:=h
  unfold putAt
  by_cases e:p.1=k
  · rw [if_pos e,if_pos (h1.symm.trans e)];exact ⟨h1,h2,ry⟩
  · rw [if_neg e,if_neg (fun z=>e (h1.trans z))];exact ⟨h1,h2,h3⟩
theorem RE.put {kvs:List Ent} {xs:List (List Tk.KT×Addr×Value)} (r:RE kvs xs) (k:List Tk.KT) {b:Addr} {y:V} {u:Value} (ry:RelV y u):RE (putJ kvs k b y) (storedH xs k b u):=by
 have e:(valJ kvs k).isSome=(atKey xs k).isSome:=by
  rw [(r.val k).isSome_eq,Option.isSome_map]
 unfold putJ storedH
 rw [e]
 by_cases q:(atKey xs k).isSome=true
 · rw [if_pos q,if_pos q];exact r.repl k ry
 · rw [if_neg q,if_neg q];exact Paired.snoc r ⟨rfl,rfl,ry⟩
theorem o4 {kvs:List Ent} {k:List Tk.KT} {b:Addr} {v:V} {p:Ent} (h:p∈putJ kvs k b v):(∃q∈kvs,p.1=q.1∧p.2.1=q.2.1)∨(p.1=k∧p.2.1=b):=by
 unfold putJ at h
 split at h
 · obtain ⟨q,m,e⟩:=vL.mp h
   split at e
   · subst e;exact .inl ⟨q,m,rfl,rfl⟩
   · subst e;exact .inl ⟨q,m,rfl,rfl⟩
 · rcases vH.mp h with m|m
   · exact .inl ⟨p,m,rfl,rfl⟩
   · rw [vo.mp m];exact .inr ⟨rfl,rfl⟩
theorem Kd.updJ {P:Program} {w:World} {H:Hp} {a:Addr} {kvs:List Ent} {o:HO} (h:H a=some (dJ P w a kvs)):Kd H (upd H a o):=by
 refine ⟨fun b zs e=> ?_,fun b zs e=>⟨zs,?_⟩⟩
 · rw [aj (fun z=>by rw [z,h] at e;cases e)];exact e
 · rw [aj (fun z=>by rw [z,h] at e;cases e)];exact e
theorem Kd.updK {H:Hp} {a:Addr} {kvs:List (Key×V)} {o:HO} (h:H a=some (.dK kvs)):Kd H (upd H a o):=by
 refine ⟨fun b zs e=> ?_,fun b zs e=>⟨zs,?_⟩⟩
 · rw [aj (fun z=>by rw [z,h] at e;cases e)];exact e
 · rw [aj (fun z=>by rw [z,h] at e;cases e)];exact e
theorem DJ.put {P:Program} {w:World} {K:PySem.W.Frag} {H:Hp} {a b:Addr} {kvs:List Ent} {k:List Tk.KT} {v:V} (d:DJ P w K H a kvs) (hk:KeyAt K H k b):DJ P w K (upd H a (dJ P w a (putJ kvs k b v))) a (putJ kvs k b v):=by
 refine ⟨aa,fun p m=> ?_⟩
 refine KeyAt.mono (Kd.updJ d.at_) ?_
 rcases o4 m with ⟨q,mq,e1,e2⟩|⟨e1,e2⟩
 · rw [e1,e2];exact d.keys q mq
 · rw [e1,e2];exact hk
theorem DJ.kd {P:Program} {w:World} {K:PySem.W.Frag} {H H':Hp} {a:Addr} {kvs:List Ent} (d:DJ P w K H a kvs) (k:Kd H H') (e:H' a=some (dJ P w a kvs)):DJ P w K H' a kvs:=⟨e,fun p m=>(d.keys p m).mono k⟩
section
variable {P:Program} {w:World} {H:Hp} {h:Heap} {a:Addr}
theorem lq {K:PySem.W.Frag} {kvs:List Ent} (ok:HOk P w H h) (kin:K.In h) (d:DJ P w K H a kvs):kvs.length≤sizeLine∧(a==sysModules)=false∧∃xs,RE kvs xs∧h.DictOfH (Tk.treeKind P w) a xs:=by
 obtain ⟨⟨z,y,xs,r,o,es,ep,h1,h2,h3,h4,h5⟩,_⟩:=(show ObjOk P w H h a (dJ P w a kvs) from ok a _ d.at_)
 refine ⟨z,y,xs,r,o,es,ep,h1,h2,h3,h4,?_,h5⟩
 have all:∀ {l:List Ent} {m:List (List Tk.KT×Addr×Value)},RE l m→(∀p∈l,KeyAt K H p.1 p.2.1)→∀x∈m,(Tk.treeKind P w).is h x.1 x.2.1:=by
  intro l m q
  induction q with
  |nil=>intro _ x hx;exact nomatch hx
  | @cons p q ps qs hq t ih=>
   intro kp x hx
   rcases vd.mp hx with e|hx
   · subst e
     rw [←hq.1,←hq.2.1]
     exact (kp p v7).is ok kin
   · exact ih (fun p m=>kp p (uX _ m)) x hx
 exact all r d.keys
theorem pA {kvs:List Ent} {xs:List (List Tk.KT×Addr×Value)} {H':Hp} {h':Heap} (z:kvs.length≤sizeLine) (y:(a==sysModules)=false) (r:RE kvs xs)
 (d:∃o es ep,h'.get? a=some o∧o.ExactDict∧o.data= .dict es ep∧es.toList=xs.map (entryOfKey (Tk.treeKind P w))∧(xs.map (·.1)).Nodup):ObjOk P w H' h' a (dJ P w a kvs):=by
 obtain ⟨o,es,ep,h1,h2⟩:=d
 refine ⟨⟨z,y,xs,r,o,es,ep,h1,h2⟩,⟨o,h1⟩,?_⟩
 rintro g1 g2 ⟨z,y,xs,r,o,es,ep,h1,h2⟩ st
 exact ⟨z,y,xs,r,o,es,ep,st _ h1,h2⟩
end
noncomputable def ni (P:Program) (w:World):TE:=fun _ H Q=>∀p,H p=none→Q (.ref p) (upd H p (dJ P w p []))
section
variable {X:Cx} {pos pos' apos cpos:Pos} {o i e f value:Expr} {td ty tv tx:TE}
theorem pB {P:Program} {w:World} {H:Hp} (h:Heap) (hb:sysModules < h.objs.size):ObjOk P w H (h.push {cls:= .type "dict",data:= .dict #[]}) h.objs.size (dJ P w h.objs.size []):=
 pA (vF _) (beq_eq_false_iff_ne.mpr (Ne.symm (vf hb))) .nil ⟨_, #[],0,Heap.get?_push_size _ rfl,⟨rfl,rfl,rfl⟩,rfl,rfl,List.nodup_nil⟩
theorem ol:PE X (.Dict [] [] pos) (ni X.prog X.w):=fun pins s σ H Q I h=>
 wpAny_Dict_empty ⟨.ref s.heap.objs.size,_,I.laid (a:=s.heap.objs.size) (o:=dJ X.prog X.w s.heap.objs.size []) (t':=s.toks) (fun _ _ q=>Heap.get?_push_of_some _ q) (uW _) (pB s.heap I.big),rfl,h _ (I.hok.fresh (uW _))⟩
variable {P:Program} {w:World} {K:PySem.W.Frag}
theorem k9 (hP:X.prog=P) (hw:X.w=w):PE X (.Dict [] [] pos) (ni P w):=by
 subst hP hw
 exact ol
end
end Dj
namespace Tre
open PySem L2
theorem nl {x y:String} (h:(Str.ofString x).cps.toList≠(Str.ofString y).cps.toList) {r s:List Co}:Co.tup (.str (Str.ofString x).cps.toList::r)=Co.tup (.str (Str.ofString y).cps.toList::s)→False:=fun e=>by
 simp only [Co.tup.injEq,List.cons.injEq,Co.str.injEq] at e
 exact h e.1
def Rise (us:List Tr):Prop:=∀(i j:Nat) (t u:Tr),i≤j→us[i]?=some t→us[j]?=some u→ltT u t=false
theorem Rise.tail {a:Tr} {us:List Tr} (h:Rise (a::us)):Rise us:=fun i j t u hij e1 e2=>h (i+1) (j+1) t u (by omega) (by simpa using e1) (by simpa using e2)
theorem Rise.head {a b:Tr} {us:List Tr} (h:Rise (a::us)) (m:b∈us):ltT b a=false:=by
 obtain ⟨j,hj,e⟩:=List.getElem_of_mem m
 exact h 0 (j+1) a b (by omega) rfl (by simp [hj,e])
end Tre
namespace Wd
open PySem L2 Tre Mth Dj
def Lt2 (e:Nat) (x:Int):Prop:=x.natAbs < 2^e
abbrev Fr:=Int×Int
def frT (p:Fr):Tr:= .tup [.int p.1, .int p.2]
def frK (p:Fr):Tk.KT:= .tp [.lf (.inl p.1), .lf (.inl p.2)]
structure Gf (e:Nat) (p:Fr):Prop where
 pos:0 < p.2
 top:Lt2 e p.1
 bot:Lt2 e p.2
def zero:Fr:=(0,1)
def Gv (p:Fr):Prop:=Gf 200 p∧cU p.1 p.2
theorem qP:Gf 200 zero:=⟨by decide,by show (0:Nat) < 2^200;exact Nat.pow_pos (by decide),by show (1:Nat) < 2^200;decide +kernel⟩
theorem kK:Gv zero:=⟨qP,by decide,by decide⟩
structure Wld where
 fl:Str→Bool
 va:Str→Fr
 ca:List Tk.KT→Fr
structure Wld.Ok (W:Wld):Prop where
 va:∀x,Gv (W.va x)
 ca:∀k,Gv (W.ca k)
def Gp (p:Tr):Prop:=∃tm f,p= .tup [tm,frT f]∧Ty .tm tm∧tm.depth≤5∧Gf 603 f
inductive Gw:Tr→Prop
 |fl (x:Str):Gw (.tup [s_ "flag", .str x])
 |mo (ps:List Tr) (f:Fr):ps.length≤3→(∀p∈ps,Gp p)→Gf 900 f→Gw (.tup [s_ "most", .tup ps,frT f])
 |li (t u:Tr):Ty .tm t→Ty .tm u→t.depth≤7→u.depth≤7→Gw (.tup [s_ "like",t,u])
 |no (w:Tr):Gw w→Gw (.tup [s_ "not",w])
 |bo (l:List Tr):l.length≤3→(∀w∈l,Gw w)→Gw (.tup [s_ "both", .tup l])
 |ei (l:List Tr):l.length≤3→(∀w∈l,Gw w)→Gw (.tup [s_ "either", .tup l])
theorem Gw.ty {t:Tr} (h:Gw t):Ty .ws t:=by
 induction h with
 |fl x=>exact .fl x
 |mo ps f _ hp _=>
  refine .mo ps _ (fun p m=> ?_) (.fr _ _)
  obtain ⟨tm,f,rfl,h1,_⟩:=hp p m
  exact .pr _ _ h1 (.fr _ _)
 |li t u h1 h2 _ _=>exact .li t u h1 h2
 |no w _ ih=>exact .no w ih
 |bo l _ _ ih=>exact .bo l ih
 |ei l _ _ ih=>exact .ei l ih
inductive Gl:Tr→Prop
 |mk (t:Tr) (b:Bool):Gw t→Gl (.tup [t, .bl b])
theorem Gl.ty {t:Tr} (h:Gl t):Ty .lt t:=by
 cases h with
 |mk t b h=>exact .lt t b h.ty
end Wd
namespace K85
open PySem L2 Mth
noncomputable def top (i:Nat):Stmt:=PySem.Challenge.pw_smallword_k85_lines_refused.main.body.getD i (.Pass ⟨0,0,0,0⟩)
noncomputable abbrev gk:Stmt:=kI (top 1) 0
noncomputable abbrev sNTi:Stmt:=kI (top 3) 0
noncomputable abbrev sCd:Stmt:=top 12
noncomputable abbrev sFr:Stmt:=top 13
noncomputable abbrev sFg:Stmt:=top 17
noncomputable abbrev sAf:Stmt:=top 18
noncomputable abbrev sNo:Stmt:=top 19
noncomputable abbrev sFt:Stmt:=top 20
noncomputable abbrev sFi:Stmt:=top 21
noncomputable abbrev sNmQ:Stmt:=top 25
noncomputable abbrev sRdw:Stmt:=top 27
noncomputable abbrev sEnt:Stmt:=top 28
noncomputable abbrev gm:Stmt:=top 30
noncomputable abbrev gh:Stmt:=top 31
noncomputable abbrev sSpo:Stmt:=top 32
noncomputable abbrev gj:Stmt:=top 33
noncomputable abbrev sLFr:Stmt:=top 34
noncomputable abbrev sLNm:Stmt:=top 35
noncomputable abbrev gi:Stmt:=top 36
noncomputable abbrev sDue:Stmt:=top 37
noncomputable abbrev gg:Stmt:=top 38
noncomputable abbrev sAsk:Stmt:=top 39
noncomputable abbrev sLaw:Stmt:=top 40
theorem ae {H:Hp} {p:Addr} {o:HO} (h:H p=none):Same H (upd H p o):=fun b u e=>by
 rw [aj (aI e h)]
 exact e
theorem b8 {H H':Hp} {D:Addr} {o:HO} (h:H D=none) (s:Same H H'):Same H (upd H' D o):=fun b u e=>by
 rw [aj (aI e h)]
 exact s b u e
section
variable {P:Program} {w:World} {K:PySem.W.Frag} {mg:Str→Option Value} {base:Heap}
structure Blt (mg:Str→Option Value):Prop where
 ab:mg "abs"=none
 le:mg "len"=none
 ra:mg "range"=none
 isi:mg "isinstance"=none
 tu:mg "tuple"=none
 it:mg "int"=none
 bo:mg "bool"=none
 li:mg "list"=none
 st:mg "str"=none
 al:mg "all"=none
 an:mg "any"=none
 su:mg "sum"=none
 zi:mg "zip"=none
 so:mg "sorted"=none
 ve:mg "ValueError"=none
 en:mg "enumerate"=none
 rv:mg "reversed"=none
def spCd:Sp:=fun vs H Q _=>∃(a b:Int),vs= [.int a, .int b]∧Q (.int (Int.gcd a b:Int)) H
theorem scC:aN ["one","other"] ["one","other"] (af sCd):=⟨rfl,rfl,rfl,by decide +kernel,rfl,by decide +kernel,by decide +kernel⟩
theorem rn (a:Int):(if a < 0 then -a else a)=(Int.gcd a 0:Int):=by
 rw [Int.gcd_zero_right]
 split<;>omega
theorem uC {f:Addr} {fd:FuncData} (F:Fun K "common_divisor" "common_divisor" sCd f fd) (B:Blt mg):FnOk P w K mg base CX0 1 f fd ["one","other"] spCd:=by
 refine F.ok scC (fun vs H Q E h=> ?_) (fun cdv A outer s H vs Q E hr h=> ?_)
 · obtain ⟨a,b,rfl,_⟩:=h
   rfl
 · obtain ⟨a,b,rfl,k⟩:=h
   refine ⟨_,a9 (f8 PassesOwn.never (ah cF (pv 1) ac (ao _)) (ag (sN (i:=0) (j:=1) rfl scC.nd rfl rfl (by decide) rfl rfl (a7 (pv 1) (a7 (ak qw (pv 0) (pv 1)) a8)) rfl)))
    (ag (aA (aq jc rfl B.ab jd (a7 (pv 0) a8)))),?_⟩
   refine eM (fun σ H'=>H'=H∧∃x y:Int,σ= [some (.int x),some (.int y)]∧Int.gcd x y=Int.gcd a b) (fun σ _=>match σ with| [_,some (.int y)]=>y.natAbs|_=>0) ⟨rfl,a,b,rfl,rfl⟩ ?_ ?_
   · rintro σ H' ⟨rfl,x,y,rfl,e⟩
     refine ⟨_,rfl,rfl,_,rfl,?_⟩
     by_cases z:y=0
     · subst z
       rw [decide_eq_true rfl]
       refine iteF ?_
       refine ⟨_,rfl,x,rfl,?_⟩
       rw [rn,e]
       exact k
     · have z':¬(V.int y=V.int 0):=fun q=>z (V.int.inj q)
       rw [decide_eq_false z']
       refine iteT ?_
       refine ⟨_,rfl,_,rfl,_,rfl,x,y,rfl,rfl,z,_,_,rfl,?_⟩
       refine ⟨⟨rfl,y,x.fmod y,rfl,?_⟩,?_⟩
       · rw [p4,e]
       · exact qU z
   · intro σ H' R R' hR h
     obtain ⟨v,e1,e2,q,e3,h⟩:=h
     exact ⟨v,e1,e2,q,e3,hR _ _ h⟩
theorem re {t b:Int} (h:Big b) (z:b≠0):Big (Int.gcd t b:Int):=by
 have:Int.gcd t b≤b.natAbs:=Int.gcd_le_natAbs_right t (by omega)
 unfold Big at*
 omega
end
end K85
namespace L2
open PySem PySem.Spec PyProof.Rows
def jP (J:It) (D:Addr) (tc:TT) (te:TE) (rest:L2.St) (Q:VK) (H1:Hp):Prop:=
 ∃W:Nat→Nat→List V→Hp→Prop,(∃m,W 0 m [] (upd H1 D (.lst [])))∧∀i m acc H2,W i m acc H2→
  (J.stop i H2∧Q (.ref D) H2)∨
  (J.go i H2∧∀x H3,J.yld i H2 x H3→bB 0 x (none::rest) H3 fun σ4 H4=>Ext (none::rest) σ4∧tc σ4 H4 fun b H5=>if b=true then te σ4 H5 fun v H6=>H6 D=some (.lst acc)∧acc.length < sizeLine∧∃m',m' < m∧W (i+1) m' (acc++ [v]) (upd H6 D (.lst (acc++ [v])))
   else∃m',m' < m∧W (i+1) m' acc H5)
theorem lO {mp:List (Option Nat)} {wi:TI} {tc:TT} {te:TE} {σ rest:L2.St} {H:Hp} {Q:VK} (e:subS mp σ=none::rest) (h:wi σ H fun J H1=>∀D,H1 D=none→jP J D tc te rest Q H1):di mp wi (bB 0) tc te σ H Q:=by
 unfold di
 rw [e]
 exact h
def CompS (n i:Nat) (acc:List V) (Pv:Nat→List V→Hp→Prop):Hp→Prop:=fun H5=>∃m',m' < n - i∧(m'=n - (i+1)∧i+1≤n∧Pv (i+1) acc H5)
theorem CompS.mk {n i:Nat} {acc:List V} {Pv:Nat→List V→Hp→Prop} {H5:Hp} (hi:i < n) (h:Pv (i+1) acc H5):CompS n i acc Pv H5:=⟨n - (i+1),by omega,rfl,hi,h⟩
theorem jI {K:PySem.W.Frag} {a D:Addr} {xs:List V} {tc:TT} {te:TE} {rest:L2.St} {Q:VK} {H1:Hp} (Pv:Nat→List V→Hp→Prop) (h0:Pv 0 [] (upd H1 D (.lst [])))
 (hl:∀i acc H,Pv i acc H→SqL K H a xs)
 (hs:∀i x acc H,i < xs.length→xs[i]?=some x→Pv i acc H→tc (some x::rest) H fun b H5=>if b=true then te (some x::rest) H5 (CompN xs.length i D acc Pv) else CompS xs.length i acc Pv H5)
 (hd:∀acc H,Pv xs.length acc H→Q (.ref D) H):jP (Itl K a) D tc te rest Q H1:=by
 refine ⟨fun i m acc H=>m=xs.length - i∧i≤xs.length∧Pv i acc H,⟨xs.length,by simp,vF _,h0⟩,?_⟩
 rintro i m acc H ⟨rfl,hi,p⟩
 by_cases hlt:i < xs.length
 · refine .inr ⟨⟨xs,xs[i],hl i acc H p,by simp [hlt]⟩,fun x H' y=>⟨ext1,?_⟩⟩
   obtain ⟨e,y⟩:=y
   subst e
   exact hs i x acc _ hlt (y xs (hl i acc _ p)) p
 · have e:i=xs.length:=by omega
   subst e
   exact .inl ⟨⟨xs,hl _ acc H p,uW _⟩,hd acc H p⟩
end L2
namespace Zp
open PySem
inductive Src where
 |lst|tup
section
variable {prog:Program} {w:World} {A:Around} {E:Value→Shared→Prop} {s:Shared} {k:Src} {it l:Addr} {i:Nat} {xs:Array Value} {x:Value} {Q:Value→Shared→Prop}
end
open PySem
section
variable {prog:Program} {w:World} {A:Around} {E:Value→Shared→Prop} {s:Shared} {k:Src} {z TI TO i1 i2 l1 l2:Addr} {j:Nat} {xs ys:Array Value} {x y a b:Value}
end
open PySem
section
variable {prog:Program} {w:World} {A:Around} {E:Value→Shared→Prop} {s:Shared}
end
end Zp
namespace L2
open PySem PySem.Spec PyProof.Rows Zp
section
variable {X:Cx} {pins:List (Addr×Obj)} {σ:St} {H:Hp} {s:Shared}
theorem Inv.turneds {h':Heap} {t':Nat} {fp:List Addr} (I:Inv X pins σ H s) (k:∀b o,b∉fp→s.heap.get? b=some o→h'.get? b=some o) (hf:∀b∈fp,FpOk X pins H b):Inv X pins σ H {s with heap:=h',toks:=t'}:=by
 refine I.call' (s':= {s with heap:=h',toks:=t'}) (ch:=fp) rfl ⟨fun b o e _ _ hx=>k b o hx e,fun b o e _ _ hx=>⟨o.slots,k b o hx e⟩,fun _ _ _ n _=>n,fun b o e hx=>⟨o,k b o hx e⟩,fun _ _ e=>e,fun _ _ _ e=>e,fun b ps e=>⟨#[],by rw [e];simp⟩⟩ ?_ I.bare fun b hb=> ?_
 · intro b o e
   have nb:∀c u,H c=some u→c∉fp:=fun c u e z=>by rw [(hf c z).1] at e;cases e
   refine (I.hok b o e).stay (fun c v hc q=>k c v ?_ q) (fun _ q=>q) fun _ _ q=>q
   rcases hc with z|z
   · rw [z];exact nb b o e
   · exact nb c _ z
 · obtain ⟨g0,g1,g2,g3,g4,g5⟩:=hf b hb
   exact ⟨g3,g1,g4,g5⟩
end
section
variable {X:Cx}
end
open PySem PySem.Spec PyProof.Rows Zp
section
variable {X:Cx}
end
section
variable {X:Cx}
end
end L2
namespace Tre
open PySem L2 Zp
end Tre
namespace Tre
open PySem PySem.Spec PyProof.Rows L2
section
variable {X:Cx}
theorem pO {H:Hp} {t:Tr} {e:Value→Bool}:∀ {xs:List V} {us:List Value} {ts:List Tr},Vals xs us→TrsAt H xs ts→(∀v u s,RelV v u→TrAt H v s→e u=eqT s t)→us.any e=ts.any fun s=>eqT s t
 |_,_,[],r,h,_=>by
  unfold TrsAt at h
  subst h
  cases r
  rfl
 |_,_,s::ts,r,h,he=>by
  unfold TrsAt at h
  obtain ⟨v,q,rfl,h1,h2⟩:=h
  cases r with
  |cons r1 r2=>rw [vX,vX,pO r2 h2 he,he _ _ _ r1 h1]
def qe:V→List V→Hp→VK→Prop:=fun x vs H Q=>∃l xs y j,∃i:Nat,x= .ref l∧vs= [.int j,y]∧j=(i:Int)∧H l=some (.lst xs)∧i≤xs.length∧xs.length < sizeLine∧Q .non (upd H l (.lst (xs.take i++y::xs.drop i)))
theorem tM {its:List Value} {u:Value} {j:Int} {i:Nat} (hj:j=(i:Int)) (hi:i≤its.length):((its.toArray.extract 0 (if j < 0 then (j+(its.toArray.size:Int)).toNat else min j.toNat its.toArray.size)).push u++its.toArray.extract (if j < 0 then (j+(its.toArray.size:Int)).toNat else min j.toNat its.toArray.size))=(its.take i++u::its.drop i).toArray:=by
 have e1:(if j < 0 then (j+(its.toArray.size:Int)).toNat else min j.toNat its.toArray.size)=i:=by
  rw [if_neg (by omega),uY]
  omega
 rw [e1]
 exact PySem.W.kl_ins_eq its i u
theorem gp:MtM X "list.insert" qe:=by
 intro pins s σ H x vs v us Q I rx rv h
 obtain ⟨l,xs,y,j,i,rfl,rfl,hj,hH,hi,hz,q⟩:=h
 cases rx
 obtain ⟨u1,u,rfl,ru1,ru⟩:=rv.two
 obtain ⟨t,rfl⟩:=ru1
 obtain ⟨z,its,n,r,hl,e⟩:=I.lstM hH
 have hL:=cS
 have f1:-(2^63)≤j:=by omega
 have f2:j < 2^63:=by omega
 have nf:¬(!Builtin.List.listFitsIndex j)=true:=by
  rw [fitsIndex_both f1 f2]
  exact v5
 have sz:its.toArray.size≤sizeLine:=by
  rw [uY,←hl]
  exact Nat.le_of_lt hz
 have M:=AutoSeq1.list_insert_list_int_val_1 l its.toArray n j t u nf sz
 refine call_meets F.slot_list_insert ⟨_,e,rfl⟩ F.entry_list_insert (F.args_list_insert_3 _ _ _) M ⟨e,?_⟩
 refine ⟨.non,_,I.lset (its':=its.take i++u::its.drop i) hH e (tM hj (by omega)) ((r.take i).append (.cons ru (r.drop i))) ?_,rfl,q⟩
 rw [vc,uU,vx,vV]
 omega
end
open PySem PySem.Spec PyProof.Rows L2
section
variable {X:Cx}
def SqE (H:Hp) (p:Addr) (xs:List V):Prop:=H p=some (.lst xs)∨H p=some (.tup xs)
def rIn (b:Bool):R2:=fun x y H Q=>∃p xs ts t,y= .ref p∧SqE H p xs∧TrsAt H xs ts∧TrAt H x t∧(∀u∈ts,u.depth≤40)∧t.pure∧Q (.bl ((ts.any fun u=>eqT u t)==b)) H
theorem dG {pins:List (Addr×Obj)} {s:Shared} {σ:L2.St} {H:Hp} {xs:List V} {ts:List Tr} {t:Tr} {x:V} {v:Value} {its:List Value} (hu:X.A.units+50 < cLine) (I:Inv X pins σ H s) (rx:RelV x v) (r:Vals xs its) (hT:TrsAt H xs ts) (ht:TrAt H x t) (hd:∀u∈ts,u.depth≤40) (hpu:t.pure):
 ∃e:Value→Bool,(∀w,w∈its.toArray→SeqAt.EqAt X.A.in1 s w v (e w))∧its.toArray.any e=ts.any fun s=>eqT s t:=by
 classical
 have he:∀v' u' s',RelV v' u'→TrAt H v' s'→decide (∃v s,RelV v u'∧TrAt H v s∧eqT s t=true)=eqT s' t:=fun v' u' s' r' h'=>by
  cases e:eqT s' t with
  |true=>exact decide_eq_true ⟨v',s',r',h',e⟩
  |false=>
   refine decide_eq_false ?_
   rintro ⟨v2,s2,r2,h2,e2⟩
   cases r2.inj r'
   rw [TrAt.det h2 h',e] at e2
   cases e2
 refine ⟨fun u'=>decide (∃v s,RelV v u'∧TrAt H v s∧eqT s t=true),fun w hw=> ?_,?_⟩
 · have hw':w∈its:=by simpa using hw
   obtain ⟨j,hj,ej⟩:=List.getElem_of_mem hw'
   have l1:=r.length
   have l2:=hT.len
   have t1:ts[j]?=some (ts[j]'(by omega)):=uV _
   obtain ⟨v',e1,a1⟩:=hT.get t1
   obtain ⟨u',e2,q2⟩:=r.get e1
   rw [uV hj,ej] at e2
   cases e2
   dsimp only
   rw [he _ _ _ q2 a1]
   exact gZ I 40 (hd _ (vi t1)) (.inr hpu) a1 ht q2 rx (by show X.A.units+1+40+1 < cLine;omega)
 · rw [List.any_toArray]
   exact pO r hT he
theorem sf (b:Bool):(b==true)=b:=by cases b<;>rfl
theorem pK (b:Bool):(b==false)= !b:=by cases b<;>rfl
theorem or (hu:X.A.units+50 < cLine):OpR X (compareOp .In) (rIn true):=by
 intro pins s σ H x y v u Q I rx ry h
 obtain ⟨p,xs,ts,t,rfl,hp,hT,ht,hd,hpu,q⟩:=h
 cases ry
 rcases hp with hp|hp
 · obtain ⟨its,r,pl,hz⟩:=I.list (SqL.of hp)
   obtain ⟨e,h1,h2⟩:=dG hu I rx r hT ht hd hpu
   refine SeqAt.in_listAt e pl.isList h1 ⟨.bl _,H,I,rfl,?_⟩
   rw [h2,←sf (ts.any fun s=>eqT s t)]
   exact q
 · obtain ⟨its,r,pl,hz⟩:=I.tuple (SqT.of hp)
   obtain ⟨e,h1,h2⟩:=dG hu I rx r hT ht hd hpu
   refine SeqAt.in_tupleAt e (show s.heap.IsTuple p its.toArray from pl) h1 ⟨.bl _,H,I,rfl,?_⟩
   rw [h2,←sf (ts.any fun s=>eqT s t)]
   exact q
theorem qv (hu:X.A.units+50 < cLine):OpR X (compareOp .NotIn) (rIn false):=by
 intro pins s σ H x y v u Q I rx ry h
 obtain ⟨p,xs,ts,t,rfl,hp,hT,ht,hd,hpu,q⟩:=h
 cases ry
 rcases hp with hp|hp
 · obtain ⟨its,r,pl,hz⟩:=I.list (SqL.of hp)
   obtain ⟨e,h1,h2⟩:=dG hu I rx r hT ht hd hpu
   refine SeqAt.notIn_listAt e pl.isList h1 ⟨.bl _,H,I,rfl,?_⟩
   rw [h2,←pK (ts.any fun s=>eqT s t)]
   exact q
 · obtain ⟨its,r,pl,hz⟩:=I.tuple (SqT.of hp)
   obtain ⟨e,h1,h2⟩:=dG hu I rx r hT ht hd hpu
   refine SeqAt.notIn_tupleAt e (show s.heap.IsTuple p its.toArray from pl) h1 ⟨.bl _,H,I,rfl,?_⟩
   rw [h2,←pK (ts.any fun s=>eqT s t)]
   exact q
end
theorem pJ {H:Hp}:∀ {bs:List Bool},TrsAt H (bs.map V.bl) (bs.map Tr.bl)
 | []=> .nil
 |b::bs=> .cons (by unfold TrAt;rfl) pJ
theorem lH (b:Bool):∀bs:List Bool,((bs.map Tr.bl).any fun u=>eqT u (.bl b))=bs.any (· ==b)
 | []=>rfl
 |c::bs=>by
  rw [uZ,vX,vX,lH b bs]
  simp [eqT]
theorem mK {bs:List Bool}:∀u∈bs.map Tr.bl,u.depth≤40:=fun u m=>by
 obtain ⟨b,_,rfl⟩:=vL.mp m
 simp [Tr.depth]
end Tre
namespace L2
open PySem PySem.Spec PyProof.Rows
section
variable {X:Cx}
end
end L2
namespace Wd
open PySem L2 Tre Mth Dj
def FlG (kF:List (Key×V)):Prop:=∀x v,valV kF (.inr x)=some v→∃b,v=V.bl b
def VaG (H:Hp) (kV:List (Key×V)):Prop:=∀x v,valV kV (.inr x)=some v→∃p,TrAt H v (frT p)∧Gv p
def CaG (H:Hp) (kC:List Ent):Prop:=∀k v,valJ kC k=some v→∃p,TrAt H v (frT p)∧Gv p
structure WS (P:Program) (w:World) (K:PySem.W.Frag) (H:Hp) (F D C:Addr) (n:Nat):Prop where
 ne:F≠D
 fl:∃kF,H F=some (.dK kF)∧FlG kF∧kF.length≤n
 va:∃kV,H D=some (.dK kV)∧VaG H kV∧kV.length≤n
 ca:∃kC,DJ P w K H C kC∧CaG H kC∧kC.length≤n
section
variable {P:Program} {w:World} {K:PySem.W.Frag} {H H':Hp} {F D C:Addr} {n:Nat}
theorem WS.nFC (h:WS P w K H F D C n):F≠C∧D≠C:=by
 obtain ⟨kF,f1,f2,f3⟩:=h.fl
 obtain ⟨kV,v1,v2,v3⟩:=h.va
 obtain ⟨kC,c1,c2,c3⟩:=h.ca
 exact ⟨fun z=>(by rw [z,c1.at_] at f1;cases f1),fun z=>(by rw [z,c1.at_] at v1;cases v1)⟩
end
def WAt (P:Program) (w:World) (K:PySem.W.Frag) (H:Hp) (v:V) (W:Wld):Prop:=∃r F D C kF kV kC,v= .ref r∧H r=some (.tup [.ref F, .ref D, .ref C])∧
 (H F=some (.dK kF)∧∀x,(valV kF (.inr x)).getD (.bl false)= .bl (W.fl x))∧
 (H D=some (.dK kV)∧∀x,(∃u,valV kV (.inr x)=some u∧TrAt H u (frT (W.va x)))∨(valV kV (.inr x)=none∧W.va x=zero))∧
 (DJ P w K H C kC∧∀k,(∃u,valJ kC k=some u∧TrAt H u (frT (W.ca k)))∨(valJ kC k=none∧W.ca k=zero))
section
variable {P:Program} {w:World} {K:PySem.W.Frag} {H H':Hp} {F D C r:Addr} {n:Nat} {v:V} {W:Wld}
theorem WS.at_ (h:WS P w K H F D C n) (e:H r=some (.tup [.ref F, .ref D, .ref C])):∃W:Wld,W.Ok∧WAt P w K H (.ref r) W:=by
 obtain ⟨kF,f1,f2,f3⟩:=h.fl
 obtain ⟨kV,v1,v2,v3⟩:=h.va
 obtain ⟨kC,c1,c2,c3⟩:=h.ca
 have hF:∀x:Str,∃b,(valV kF (.inr x)).getD (.bl false)= .bl b:=fun x=>by
  cases q:valV kF (.inr x) with
  |none=>exact ⟨false,rfl⟩
  |some v=>
   obtain ⟨b,rfl⟩:=f2 x v q
   exact ⟨b,rfl⟩
 have hV:∀x:Str,∃p,Gv p∧((∃u,valV kV (.inr x)=some u∧TrAt H u (frT p))∨(valV kV (.inr x)=none∧p=zero)):=fun x=>by
  cases q:valV kV (.inr x) with
  |none=>exact ⟨zero,kK, .inr ⟨rfl,rfl⟩⟩
  |some v=>
   obtain ⟨p,h1,h2⟩:=v2 x v q
   exact ⟨p,h2, .inl ⟨v,rfl,h1⟩⟩
 have hC:∀k:List Tk.KT,∃p,Gv p∧((∃u,valJ kC k=some u∧TrAt H u (frT p))∨(valJ kC k=none∧p=zero)):=fun k=>by
  cases q:valJ kC k with
  |none=>exact ⟨zero,kK, .inr ⟨rfl,rfl⟩⟩
  |some v=>
   obtain ⟨p,h1,h2⟩:=c2 k v q
   exact ⟨p,h2, .inl ⟨v,rfl,h1⟩⟩
 exact ⟨⟨fun x=>Classical.choose (hF x),fun x=>Classical.choose (hV x),fun k=>Classical.choose (hC k)⟩,⟨fun x=>(Classical.choose_spec (hV x)).1,fun k=>(Classical.choose_spec (hC k)).1⟩,
  r,F,D,C,kF,kV,kC,rfl,e,⟨f1,fun x=>Classical.choose_spec (hF x)⟩,⟨v1,fun x=>(Classical.choose_spec (hV x)).2⟩,⟨c1,fun k=>(Classical.choose_spec (hC k)).2⟩⟩
end
theorem rQ:∀ps:List Fr,Tk.KTs.depth (ps.map frK)≤1
 | []=>by simp [Tk.KTs.depth]
 |p::ps=>by
  have:=rQ ps
  simp only [uZ,Tk.KTs.depth,frK,Tk.KT.depth]
  omega
def FrAt (K:PySem.W.Frag) (H:Hp) (v:V) (p:Fr):Prop:=∃r,v= .ref r∧SqX K H r [.int p.1, .int p.2]
def FrsAt (K:PySem.W.Frag) (H:Hp):List V→List Fr→Prop
 |vs,[]=>vs= []
 |vs,p::ps=>∃v r,vs=v::r∧FrAt K H v p∧FrsAt K H r ps
theorem FrAt.mono {K:PySem.W.Frag} {H H':Hp} {v:V} {p:Fr} (d:Kd H H') (h:FrAt K H v p):FrAt K H' v p:=by
 obtain ⟨r,e,s⟩:=h
 exact ⟨r,e,s.mono d⟩
theorem FrsAt.mono {K:PySem.W.Frag} {H H':Hp} (d:Kd H H'):∀ {vs:List V} {ps:List Fr},FrsAt K H vs ps→FrsAt K H' vs ps
 |vs,[],h=>h
 |vs,p::ps,h=>by
  obtain ⟨v,r,e,h1,h2⟩:=h
  exact ⟨v,r,e,h1.mono d,FrsAt.mono d h2⟩
theorem qT {K:PySem.W.Frag} {H:Hp} {v:V} {p:Fr} (h:TrAt H v (frT p)):FrAt K H v p:=by
 unfold frT TrAt at h
 obtain ⟨r,vs,e,h1,h2⟩:=h
 obtain ⟨x,r1,rfl,h3,h4⟩:=h2.inv
 obtain ⟨y,r2,rfl,h5,h6⟩:=h4.inv
 unfold TrAt at h3 h5
 unfold TrsAt at h6
 subst h3 h5 h6
 exact ⟨r,e, .inl h1⟩
theorem j0 {K:PySem.W.Frag} {H:Hp}:∀ {vs:List V} {ps:List Fr},TrsAt H vs (ps.map frT)→FrsAt K H vs ps
 |vs,[],h=>by
  unfold List.map TrsAt at h
  exact h
 |vs,p::ps,h=>by
  rw [uZ] at h
  obtain ⟨v,r,e,h1,h2⟩:=h.inv
  exact ⟨v,r,e,qT h1,j0 h2⟩
theorem kH {K:PySem.W.Frag} {H:Hp}:∀ {vs:List V} {ps:List Fr},FrsAt K H vs ps→KVts K H vs (ps.map frK)
 |vs,[],h=>by
  rw [List.map_nil,KVts]
  exact h
 |vs,p::ps,h=>by
  obtain ⟨v,r,e,⟨q,e1,s⟩,h2⟩:=h
  rw [uZ,KVts]
  refine ⟨v,r,e,?_,kH h2⟩
  rw [frK,KVt]
  refine ⟨q,_,e1,s,?_⟩
  rw [KVts]
  refine ⟨_,_,rfl,by rw [KVt],?_⟩
  rw [KVts]
  refine ⟨_,_,rfl,by rw [KVt],?_⟩
  rw [KVts]
theorem fk {K:PySem.W.Frag} {H:Hp} {q r:Addr} {x:Str} {vs:List V} {ps:List Fr} (h:H q=some (.tup [.str x, .ref r])) (h2:H r=some (.tup vs)) (h3:FrsAt K H vs ps):KeyAt K H [.lf (.inr x), .tp (ps.map frK)] q:=by
 refine ⟨_, .inl h,?_,?_⟩
 · rw [KVts]
   refine ⟨_,_,rfl,by rw [KVt],?_⟩
   rw [KVts]
   refine ⟨_,_,rfl,?_,by rw [KVts]⟩
   rw [KVt]
   exact ⟨r,vs,rfl, .inl h2,kH h3⟩
 · have:=rQ ps
   simp only [Tk.KT.depth,Tk.KTs.depth]
   omega
theorem jB {K:PySem.W.Frag} {H:Hp} {q:Addr} {x:Str} {ps:List Fr} (h:TrAt H (.ref q) (.tup [.str x, .tup (ps.map frT)])):KeyAt K H [.lf (.inr x), .tp (ps.map frK)] q:=by
 unfold TrAt at h
 obtain ⟨r,vs,e,h1,h2⟩:=h
 cases e
 obtain ⟨y,r1,rfl,h3,h4⟩:=h2.inv
 obtain ⟨z,r2,rfl,h5,h6⟩:=h4.inv
 unfold TrAt at h3 h5
 unfold TrsAt at h6
 subst h3 h6
 obtain ⟨b,zs,rfl,g1,g2⟩:=h5
 exact fk h1 g1 (j0 g2)
end Wd
namespace L2
open PySem Tre Wd
theorem az {t rest:TS} {Z:Ends} {σ:L2.St} {H:Hp} (R:L2.St→Hp→Prop) (hR:∀σ' H',R σ' H'→rest Z σ' H') (h:∀nx:L2.St→Hp→Prop,(∀σ' H',R σ' H'→nx σ' H')→t {Z with nx:=nx} σ H):tSeq t rest Z σ H:=h _ hR
theorem aM {i:Nat} {v:V} {σ:L2.St} {H:Hp} {k:L2.St→Hp→Prop} (h:k (σ.set i (some v)) H):bB i v σ H k:=h
theorem eS {Z:Ends} {σ:L2.St} {H:Hp} (h:Z.nx σ H):ng Z σ H:=h
theorem cD {H:Hp} {x:Str}:TrAt H (.str x) (.str x):=by unfold TrAt;rfl
theorem bv {H:Hp} {r:Addr} {vs:List V} {ts:List Tr} (h:H r=some (.tup vs)) (h1:TrsAt H vs ts):TrAt H (.ref r) (.tup ts):=by
 unfold TrAt
 exact ⟨r,vs,rfl,h,h1⟩
end L2
namespace K85
open PySem L2 Mth Tre
theorem SqL.same {K:PySem.W.Frag} {H H':Hp} {a:Addr} {xs:List V} (s:Same H H') (h:SqL K H a xs):SqL K H' a xs:=h.imp (fun x=>x.imp (fun e=>s _ _ e) fun ⟨o,e⟩=>⟨o,s _ _ e⟩) id
theorem pL {ns:List Int} {i:Int} (h0:0≤i) (h1:i < ns.length):∃(z:Int),atI (ns.map V.int) i=some (.int z):=by
 obtain ⟨j,rfl⟩:∃j:Nat,i=(j:Int):=⟨i.toNat,by omega⟩
 have hj:j < ns.length:=by omega
 exact ⟨ns[j],aR (by rw [vn,uV hj];rfl)⟩
theorem iq {m:Int} (h0:0≤m) (h:m≤1000000000000):Big m:=by
 unfold Big
 have:(1000000000000:Nat) < 2^8000:=by decide +kernel
 exact vA (by omega) this
section
variable {P:Program} {w:World} {K:PySem.W.Frag} {mg:Str→Option Value} {base:Heap}
def eY (K:PySem.W.Frag):Sp:=fun vs H Q _=>∃(a:Addr) (ns:List Int) (kk m:Int),vs= [.ref a, .int kk, .int m]∧SqL K H a (ns.map V.int)∧ns.length≤63∧0≤kk∧kk≤100000∧0 < m∧∀r:Int,0≤r→r < m→Q (.int r) H
theorem scD:aN ["_law_script","_law_k","_law_many","_law_cell","_law_seed"] ["_law_script","_law_k","_law_many"] (af gm):=⟨rfl,rfl,rfl,by decide +kernel,rfl,by decide +kernel,by decide +kernel⟩
theorem qD {f:Addr} {fd:FuncData} (F:Fun K "_law_draw" "_law_draw" gm f fd) (B:Blt mg):FnOk P w K mg base CX0 1 f fd ["_law_script","_law_k","_law_many"] (eY K):=by
 refine F.ok scD (fun vs H Q E h=> ?_) (fun cdv A outer s H vs Q E hr h=> ?_)
 · obtain ⟨a,ns,kk,m,rfl,_⟩:=h
   rfl
 obtain ⟨a,ns,kk,m,rfl,hS,h63,k0,k5,m0,k⟩:=h
 refine ⟨_,a9 (ar (i:=3) scD.nd rfl (Or.inl rfl) (bn (ah gn (aq am rfl B.le PySem.boot_len (a7 (pv 0) a8)) ac (ao _))
  (aE av (pv 0) (ak bZ (pv 1) (aq am rfl B.le PySem.boot_len (a7 (pv 0) a8))) fun _ _=>rfl) ac))
  (a9 (aS (PW.pt (eZ (ah gn (aq am rfl B.le PySem.boot_len (a7 (pv 0) a8)) ac (ao _)) (eK (ah b9 (ak bZ (aE av (pv 0) ac fun _ _=>rfl) ac) ac (ao _)))))
   (ag (aA (ak bZ (ak bZ (ak sR (pv 3) (ak aX (ak cy ac (ak qy (pv 1) (aq am rfl B.le PySem.boot_len (a7 (pv 0) a8)))) ac)) ac) (pv 2)))) aw)
  (a9 (ar (i:=4) scD.nd rfl (Or.inl rfl) (ak aX (ak aX (ak bZ (pv 3) ac) (ak ia (ak cy ac (pv 1)) (pv 1))) ac))
  (ag (aA (ak bZ (ak bZ (ak cy (ak bZ (ak cy (pv 4) ac) ac) ac) ac) (pv 2)))))),?_⟩
 by_cases z0:ns.length=0
 · have e0:ns= []:=List.length_eq_zero_iff.mp z0
   subst e0
   refine ⟨_,rfl,a,_,rfl, .inl hS,_,0,rfl,rfl,_,rfl,?_⟩
   refine iteF ?_
   refine ⟨_,rfl,a,_,rfl, .inl hS,_,0,rfl,rfl,_,rfl,?_⟩
   refine iteF ?_
   refine iteF ?_
   refine ⟨_,rfl,0,1000003,rfl,rfl,(by show (0:Int) < 1000003;decide),_,rfl,31,kk,rfl,rfl, .inl ⟨by decide,by decide⟩,_,rfl,_,kk,rfl,rfl,⟨iq (by omega) (by omega),iq k0 (by omega)⟩,_,_,rfl,rfl,_,_,rfl,rfl,?_⟩
   refine ⟨_,rfl,_,48271,rfl,rfl, .inr ⟨by decide,by decide⟩,_,999983,rfl,rfl,(by show (0:Int) < 999983;decide),_,7919,rfl,rfl, .inr ⟨by decide,by decide⟩,_,524287,rfl,rfl,(by show (0:Int) < 524287;decide),_,rfl,_,m,rfl,rfl,m0,?_⟩
   exact k _ (Int.emod_nonneg _ (by omega)) (Int.emod_lt_of_pos _ m0)
 · have lp:(0:Int) < (ns.length:Int):=by omega
   obtain ⟨z,hz⟩:=pL (ns:=ns) (i:=kk%(ns.length:Int)) (Int.emod_nonneg _ (by omega)) (Int.emod_lt_of_pos _ lp)
   obtain ⟨y,hy⟩:=pL (ns:=ns) (i:=0) (by omega) lp
   have g0:decide ((0:Int) < (ns.length:Int))=true:=decide_eq_true lp
   refine ⟨_,rfl,a,_,rfl, .inl hS,_,0,rfl,rfl,_,rfl,?_⟩
   rw [uT,g0]
   refine iteT ?_
   refine ⟨_,rfl,_,rfl,_,rfl,a,_,rfl, .inl hS,kk,_,rfl,rfl,(by rw [uT];omega),a,_,kk%(ns.length:Int), .int z,rfl,(by rw [uT]),hS,hz,?_⟩
   refine ⟨_,rfl,a,_,rfl, .inl hS,_,0,rfl,rfl,_,rfl,?_⟩
   rw [uT,g0]
   refine iteT ?_
   refine ⟨_,rfl,a,_,0, .int y,rfl,rfl,hS,hy,_,2,rfl,rfl,(by show (0:Int) < 2;decide),rfl,_,rfl,?_⟩
   refine ite2 (fun _=> ?_) (fun _=> ?_)
   · refine ⟨_,rfl,_,rfl,_,rfl,a,_,rfl, .inl hS,kk,_,rfl,rfl,⟨by rw [uT];omega,by rw [uT];omega⟩,20,_,rfl,rfl, .inl ⟨by decide,by decide⟩,_,1,rfl,rfl,z,_,rfl,rfl,?_,_,1048576,rfl,rfl,(by show (0:Int) < 1048576;decide),_,rfl,_,m,rfl,rfl,m0,?_⟩
     · have:=Int.ediv_nonneg k0 (b:=((ns.map V.int).length:Int)) (by omega)
       omega
     · exact k _ (Int.emod_nonneg _ (by omega)) (Int.emod_lt_of_pos _ m0)
   · refine ⟨_,rfl,z,1000003,rfl,rfl,(by show (0:Int) < 1000003;decide),_,rfl,31,kk,rfl,rfl, .inl ⟨by decide,by decide⟩,_,rfl,_,kk,rfl,rfl,⟨iq (by omega) (by omega),iq k0 (by omega)⟩,_,_,rfl,rfl,_,_,rfl,rfl,?_⟩
     refine ⟨_,rfl,_,48271,rfl,rfl, .inr ⟨by decide,by decide⟩,_,999983,rfl,rfl,(by show (0:Int) < 999983;decide),_,7919,rfl,rfl, .inr ⟨by decide,by decide⟩,_,524287,rfl,rfl,(by show (0:Int) < 524287;decide),_,rfl,_,m,rfl,rfl,m0,?_⟩
     exact k _ (Int.emod_nonneg _ (by omega)) (Int.emod_lt_of_pos _ m0)
end
end K85
namespace L2
open PySem PySem.Spec PyProof.Rows
section
variable {X:Cx}
def rS0 (f:Str→V):V→List V→Hp→VK→Prop:=fun x vs H Q=>∃z,x= .str z∧vs= []∧Q (f z) H
def rS1 (C:Str→Str→Prop) (f:Str→Str→V):V→List V→Hp→VK→Prop:=fun x vs H Q=>∃z y,x= .str z∧vs= [.str y]∧C z y∧Q (f z y) H
theorem fg:MtM X "str.isascii" (rS0 fun z=> .bl (Txt.isascii z)):=by
 intro pins s σ H x vs v us Q I rx rv h
 obtain ⟨z,rfl,rfl,q⟩:=h
 obtain ⟨t,rfl⟩:=rx
 cases rv
 exact SC.isascii ⟨.bl _,H,I,rfl,q⟩
theorem jw:MtM X "str.isdigit" (rS0 fun z=> .bl (Txt.isdigit z)):=by
 intro pins s σ H x vs v us Q I rx rv h
 obtain ⟨z,rfl,rfl,q⟩:=h
 obtain ⟨t,rfl⟩:=rx
 cases rv
 exact SC.isdigit ⟨.bl _,H,I,rfl,q⟩
theorem md:MtM X "str.startswith" (rS1 (fun _ _=>True) fun z y=> .bl (Txt.startswith z y)):=by
 intro pins s σ H x vs v us Q I rx rv h
 obtain ⟨z,y,rfl,rfl,_,q⟩:=h
 obtain ⟨t,rfl⟩:=rx
 obtain ⟨u,rfl,ru⟩:=rv.one
 obtain ⟨t',rfl⟩:=ru
 exact SC.startswith ⟨.bl _,H,I,rfl,q⟩
theorem iN:MtM X "str.removeprefix" (rS1 (fun z _=>z.length≤sizeLine) fun z y=> .str (Txt.removeprefix z y)):=by
 intro pins s σ H x vs v us Q I rx rv h
 obtain ⟨z,y,rfl,rfl,hz,q⟩:=h
 obtain ⟨t,rfl⟩:=rx
 obtain ⟨u,rfl,ru⟩:=rv.one
 obtain ⟨t',rfl⟩:=ru
 exact SC.removeprefix (fun t' k=>⟨.str _,H,I.tok k,⟨_,rfl⟩,q⟩) hz
def rZf:V→List V→Hp→VK→Prop:=fun x vs H Q=>∃z i,x= .str z∧vs= [.int i]∧PadOk i=true∧Q (.str (Txt.zfill z i)) H
theorem oF:MtM X "str.zfill" rZf:=by
 intro pins s σ H x vs v us Q I rx rv h
 obtain ⟨z,i,rfl,rfl,hp,q⟩:=h
 obtain ⟨t,rfl⟩:=rx
 obtain ⟨u,rfl,ru⟩:=rv.one
 obtain ⟨t',rfl⟩:=ru
 exact SC.zfill hp (fun t' k=>⟨.str _,H,I.tok k,⟨_,rfl⟩,q⟩)
theorem bp:cV X (.type "int") (fun xs H Q=>∃z n,xs= [.str z]∧PySem.intText? z=some n∧z.length≤640∧Q (.int n) H):=by
 intro pins s σ H xs us Q I r h
 obtain ⟨z,n,rfl,hn,hl,q⟩:=h
 obtain ⟨u,rfl,ru⟩:=eP r
 obtain ⟨t,rfl⟩:=ru
 exact PySem.W.KIN.call_text hn hl ⟨.int n,H,I.tok _,⟨_,rfl⟩,q⟩
noncomputable def aT (x y:Str):Str×Str×Str:=match Builtin.Str.occurrences x y 0 x.length 1 with
 |i::_=>(Builtin.Str.strSub x 0 i,y,Builtin.Str.strSub x (i+y.length) x.length)
 | []=>(x,Str.empty,Str.empty)
def um:V→List V→Hp→VK→Prop:=fun x vs H Q=>∃z y,x= .str z∧vs= [.str y]∧(y.length==0)=false∧z.length≤sizeLine∧∀p,H p=none→Q (.ref p) (upd H p (.tup [.str (aT z y).1, .str (aT z y).2.1, .str (aT z y).2.2]))
theorem ie:MtM X "str.partition" um:=by
 intro pins s σ H x vs v us Q I rx rv h
 obtain ⟨z,y,rfl,rfl,hy,hz,q⟩:=h
 obtain ⟨t,rfl⟩:=rx
 obtain ⟨u,rfl,ru⟩:=rv.one
 obtain ⟨t',rfl⟩:=ru
 refine call_meets PySem.F.slot_str_partition (typeIs_str _ _ _) PySem.F.entry_str_partition (PySem.F.args_str_partition_2 _ _) (meets_str_partition z y t t' hy hz) ?_
 have q:=q s.heap.objs.size (I.hok.fresh (uW _))
 unfold aT at q
 cases e:Builtin.Str.occurrences z y 0 z.length 1 with
 |cons i r=>
  rw [e] at q
  refine ⟨.ref s.heap.objs.size,_,I.laid (t':=s.toks+1+1) (fun b u e=>Heap.get?_push_of_some _ e) (uW _) ?_,rfl,q⟩
  exact ⟨by show 3≤sizeLine;decide,[_,_,_], .cons ⟨_,rfl⟩ (.cons ⟨_,rfl⟩ (.cons ⟨_,rfl⟩ .nil)),⟨_,Heap.get?_push_size _ rfl,rfl,_,rfl⟩⟩
 |nil=>
  rw [e] at q
  refine ⟨.ref s.heap.objs.size,_,I.laid (t':=s.toks+1) (fun b u e=>Heap.get?_push_of_some _ e) (uW _) ?_,rfl,q⟩
  exact ⟨by show 3≤sizeLine;decide,[_,_,_], .cons ⟨_,rfl⟩ (.cons ⟨_,rfl⟩ (.cons ⟨_,rfl⟩ .nil)),⟨_,Heap.get?_push_size _ rfl,rfl,_,rfl⟩⟩
noncomputable def ic (x y:Str):Bool:=(decide (x.length < y.length) ||decide (Builtin.Str.strKind x < Builtin.Str.strKind y)) ||(Builtin.Str.occurrences x y 0 x.length (x.length+1)).isEmpty
noncomputable def ba (x y:Str):List Str:=if ic x y=true then [x] else Builtin.Str.partsBetween x (Builtin.Str.occurrences x y 0 x.length (x.length+1)) y.length
theorem d4:∀(tk:Nat) (ys:List Str),Vals (ys.map V.str) (strsFrom tk ys)
 |_,[]=> .nil
 |tk,y::ys=> .cons ⟨tk,rfl⟩ (d4 (tk+1) ys)
def sK:V→List V→Hp→VK→Prop:=fun x vs H Q=>∃z y,x= .str z∧vs= [.str y]∧(y.length==0)=false∧z.length≤sizeLine∧(ba z y).length≤sizeLine∧∀p,H p=none→Q (.ref p) (upd H p (.lst ((ba z y).map V.str)))
theorem dB:MtM X "str.split" sK:=by
 intro pins s σ H x vs v us Q I rx rv h
 obtain ⟨z,y,rfl,rfl,hy,hz,hn,q⟩:=h
 obtain ⟨t,rfl⟩:=rx
 obtain ⟨u,rfl,ru⟩:=rv.one
 obtain ⟨t',rfl⟩:=ru
 have q:=q s.heap.objs.size (I.hok.fresh (uW _))
 unfold ba ic at q hn
 cases h1:(decide (z.length < y.length) ||decide (Builtin.Str.strKind z < Builtin.Str.strKind y)) with
 |true=>
  rw [h1,Bool.true_or,if_pos rfl] at q
  refine call_meets PySem.F.slot_str_split (typeIs_str _ _ _) PySem.F.entry_str_split (PySem.F.args_str_split_2 _ _) (meets_str_split_cannot_occur z y t t' h1) ?_
  refine ⟨.ref s.heap.objs.size,_,I.laid (t':=s.toks) (fun b u e=>Heap.get?_push_of_some _ e) (uW _) ?_,rfl,q⟩
  exact ⟨by show 1≤sizeLine;decide,[_],0, .cons ⟨_,rfl⟩ .nil,Heap.get?_push_size _ rfl⟩
 |false=>
  rw [h1,Bool.false_or] at q hn
  cases e:(Builtin.Str.occurrences z y 0 z.length (z.length+1)).isEmpty with
  |true=>
   rw [e,if_pos rfl] at q
   refine call_meets PySem.F.slot_str_split (typeIs_str _ _ _) PySem.F.entry_str_split (PySem.F.args_str_split_2 _ _) (meets_str_split_not_found z y t t' h1 hy e) ?_
   refine ⟨.ref s.heap.objs.size,_,I.laid (t':=s.toks) (fun b u e=>Heap.get?_push_of_some _ e) (uW _) ?_,rfl,q⟩
   exact ⟨by show 1≤sizeLine;decide,[_],0, .cons ⟨_,rfl⟩ .nil,Heap.get?_push_size _ rfl⟩
  |false=>
   rw [e,if_neg v5] at q hn
   refine call_meets PySem.F.slot_str_split (typeIs_str _ _ _) PySem.F.entry_str_split (PySem.F.args_str_split_2 _ _) (meets_str_split_sep z y t t' h1 hy e hz hn) ?_
   refine ⟨.ref s.heap.objs.size,_,I.laid (t':=_) (fun b u e=>Heap.get?_push_of_some _ e) (uW _) ?_,rfl,q⟩
   exact ⟨by rw [uT];exact hn,_,0,d4 _ _,Heap.get?_push_size _ rfl⟩
end
open PySem PySem.Spec PyProof.Rows
def ItR (lo c:Int) (n:Nat):It:=⟨fun i _=>i < n,fun i H x H'=>H'=H∧x= .int (lo+(i:Nat)*c),fun i _=>n≤i⟩
theorem iy {P:Program} {w:World} {K:PySem.W.Frag} {tg:Expr} (it:Addr) (lo c:Int) (n:Nat):Turn P w K tg (ItR lo c n) [it] it (fun i h=>IsRangeIter h it (lo+(i:Nat)*c) ((n:Int) - (i:Nat)) c) where
 mem:=by simp
 obj:=fun i h st b hb=>by
  have e:b=it:=by simpa using hb
  subst e
  exact ⟨_,st,fun v z=>by
   have z':Data.fields _=Data.cell v:=z
   cases z'⟩
 keep:=fun i h h' st k=>k it (by simp) _ st
 item:=by
  intro X hP hw hK hc i pins s σ H E I hf st hg
  subst hP hw hK
  obtain ⟨f0,f1,f2,f3,f4,f5⟩:=hf it (by simp)
  refine (Walks.range (prog:=X.prog) (w:=X.w) (I.ok.hd hc) it lo c n).item i s _ _ hg st fun v h' tk hv st' kk=> ?_
  obtain ⟨t,rfl⟩:=hv
  have I1:Inv X pins σ H {s with heap:=h',toks:=tk}:=I.turned (fun b o hb e=>kk b o (by simpa using hb) e) f0 f1 f3 f4 f5
  exact ⟨_,rfl,kO (s:= {s with heap:=h',toks:=tk}) (n:="range_iterator") st' rfl rfl (by decide) ⟨.int (lo+i*c),H,I1,⟨t,rfl⟩,⟨rfl,rfl⟩,st',fun b hb=>(hf b hb).1⟩⟩
 done:=by
  intro X hP hw hK hc i pins s σ H E I hf st hg
  subst hP hw hK
  obtain ⟨f0,f1,f2,f3,f4,f5⟩:=hf it (by simp)
  exact wpAny_pyNext_range_end (I.ok.hd hc) st (by have:n≤i:=hg;omega) fun h' eb=>⟨rfl,I.turned (t':=s.toks) (fun b o hb e=>eb b o hb e) f0 f1 f3 f4 f5⟩
 self:=fun _ _ _ _ _ st h=>wpAny_pyIter_rangeiter st h
section
variable {X:Cx} {tg:Expr}
def uJ (ta:TA):TI:=fun σ H R=>ta σ H fun vs H1=>∃(lo hi c:Int) (n:Nat),vs= [.int lo, .int hi, .int c]∧0 < c∧Builtin.Range.small lo hi c=true∧Builtin.divisionGoesByPylong (hi - lo) c=false∧Builtin.Range.rangeSize lo hi c=(n:Int)∧R (ItR lo c n) H1
theorem lY {a b c:Expr} {ta:TA} {p pos:Pos} (hg:Gl X "range") (hm:X.mg "range"=none) (ha:PA X [a,b,c] ta) (hs:starEach [a,b,c] X.env= [(false,eval a X.env),(false,eval b X.env),(false,eval c X.env)]:=by rfl)
 (hs2:starEach [b,c] X.env= [(false,eval b X.env),(false,eval c X.env)]:=by rfl):PI X tg (.Call (.Name "range" p) [a,b,c] [] pos) (uJ ta):=by
 intro pins s σ H R I h
 refine Call_ (cT I hg hm boot_range (PyProof.Rows.callWith_type1 (thn (ha pos pins s σ H _ I h) fun us s1 ⟨vs,H1,I1,r1,q1⟩=> ?_) (by rw [hs,hs2]) (by rw [hs2];rfl)))
 obtain ⟨lo,hi,cc,n,e,c0,sm,dv,hn,q⟩:=q1
 subst e
 cases r1 with
 |cons r rr=>
  cases rr with
  |cons r' rr=>
   cases rr with
   |cons r'' rr=>
    cases rr
    obtain ⟨t,rfl⟩:=r
    obtain ⟨t',rfl⟩:=r'
    obtain ⟨t'',rfl⟩:=r''
    refine PySem.call_range_3 (by omega) ?_ (.inl dv)
    refine wpAny_pyIter_range (IsRange.new ..) sm ?_
    have I2:Inv X pins σ H1 {s1 with heap:=s1.heap.push {cls:= .type "range",data:= .fields #[.int lo t, .int hi t', .int cc t'']}}:=I1.kept (t':=s1.toks) fun b o e=>Heap.get?_push_of_some _ e
    refine ⟨(s1.heap.push {cls:= .type "range",data:= .fields #[.int lo t, .int hi t', .int cc t'']}).objs.size,[(s1.heap.push {cls:= .type "range",data:= .fields #[.int lo t, .int hi t', .int cc t'']}).objs.size],_,_,H1,rfl,
     I2.kept (t':=s1.toks) fun b o e=>Heap.get?_push_of_some _ e,iy _ lo cc n,?_,fun b hb=> ?_,q⟩
    · have e1:lo+((0:Nat):Int)*cc=lo:=by simp
      have e2:((n:Nat):Int) - ((0:Nat):Int)=Builtin.Range.rangeSize lo hi cc:=by rw [hn];simp
      show IsRangeIter _ _ (lo+((0:Nat):Int)*cc) (((n:Nat):Int) - ((0:Nat):Int)) cc
      rw [e1,e2]
      exact Heap.get?_push_size _ rfl
    · have e:b=(s1.heap.push {cls:= .type "range",data:= .fields #[.int lo t, .int hi t', .int cc t'']}).objs.size:=by simpa using hb
      subst e
      exact I2.fpOk (uW _) (I2.hok.fresh (uW _))
end
theorem jF {lo c:Int} {n:Nat} {g:TG} {tb:TS} {D:Ends} {σ:L2.St} {H:Hp} (Pv:Nat→L2.St→Hp→Prop) (h0:Pv 0 σ H)
 (hs:∀i σ H,i < n→Pv i σ H→g (.int (lo+(i:Nat)*c)) σ H fun σ2 H2=>tb {D with nx:=Pv (i+1),ct:=Pv (i+1),bk:=D.nx} σ2 H2) (hd:∀σ H,Pv n σ H→D.nx σ H):
 ∃W:Nat→Nat→L2.St→Hp→Prop,(∃m,W 0 m σ H)∧∀i m σ H,W i m σ H→
  ((ItR lo c n).stop i H∧D.nx σ H)∨((ItR lo c n).go i H∧∃N:L2.St→Hp→Prop,(∀σ' H',N σ' H'→∃m',m' < m∧W (i+1) m' σ' H')∧∀x H',(ItR lo c n).yld i H x H'→g x σ H' fun σ2 H2=>tb {D with nx:=N,ct:=N,bk:=D.nx} σ2 H2):=by
 refine ⟨fun i m σ H=>m=n - i∧i≤n∧Pv i σ H,⟨n,by simp,vF _,h0⟩,?_⟩
 rintro i m σ H ⟨rfl,hi,p⟩
 by_cases hlt:i < n
 · refine .inr ⟨hlt,Pv (i+1),fun σ' H' p'=>⟨n - (i+1),by omega,rfl,hlt,p'⟩,fun x H' y=> ?_⟩
   obtain ⟨e,y⟩:=y
   subst e y
   exact hs i σ _ hlt p
 · have e:i=n:=by omega
   subst e
   exact .inl ⟨uW _,hd σ H p⟩
def ItS (z:Str):It:=⟨fun i _=>i < z.cps.size,fun i H x H'=>H'=H∧∃c,z.cps[i]?=some c∧x= .str ⟨#[c]⟩,fun i _=>z.cps.size≤i⟩
theorem n6 {P:Program} {w:World} {K:PySem.W.Frag} {tg:Expr} (it:Addr) (z:Str) (t:Tok) (T:String) (hT:T= "str_ascii_iterator"∨T= "str_iterator"):Turn P w K tg (ItS z) [it] it (fun i h=>i≤z.cps.size∧h.IsStrIter it T z t i) where
 mem:=by simp
 obj:=fun i h st b hb=>by
  have e:b=it:=by simpa using hb
  subst e
  obtain ⟨_,o,ho,hc,hd⟩:=st
  exact ⟨o,ho,fun v z=>by
   rw [hd] at z
   cases z⟩
 keep:=fun i h h' st k=>by
  obtain ⟨hi,o,ho,r⟩:=st
  exact ⟨hi,o,k it (by simp) o ho,r⟩
 item:=by
  intro X hP hw hK hc i pins s σ H E I hf st hg
  subst hP hw hK
  obtain ⟨f0,f1,f2,f3,f4,f5⟩:=hf it (by simp)
  have W:Walks X.prog X.w X.A it [it] [it] z.cps.size (SignAt z) (fun i h=>h.IsStrIter it T z t i):=by
   rcases hT with rfl|rfl
   · exact Walks.strAscii (I.ok.hd hc) it z t
   · exact Walks.strWide (I.ok.hd hc) it z t
  refine W.item i s _ _ hg st.2 fun v h' tk hv st' kk=> ?_
  obtain ⟨c,u,ec,rfl⟩:=hv
  have I1:Inv X pins σ H {s with heap:=h',toks:=tk}:=I.turned (fun b o hb e=>kk b o (by simpa using hb) e) f0 f1 f3 f4 f5
  obtain ⟨o,ho,hcl,hd⟩:=id st'
  refine ⟨_,rfl,kO (s:= {s with heap:=h',toks:=tk}) (n:=T) ho hcl hd (by rcases hT with rfl|rfl<;>decide) ⟨.str ⟨#[c]⟩,H,I1,⟨u,rfl⟩,⟨rfl,c,ec,rfl⟩,⟨hg,st'⟩,fun b hb=>(hf b hb).1⟩⟩
 done:=by
  intro X hP hw hK hc i pins s σ H E I hf st hg
  subst hP hw hK
  obtain ⟨f0,f1,f2,f3,f4,f5⟩:=hf it (by simp)
  have W:Walks X.prog X.w X.A it [it] [it] z.cps.size (SignAt z) (fun i h=>h.IsStrIter it T z t i):=by
   rcases hT with rfl|rfl
   · exact Walks.strAscii (I.ok.hd hc) it z t
   · exact Walks.strWide (I.ok.hd hc) it z t
  have e:i=z.cps.size:=Nat.le_antisymm st.1 hg
  subst e
  exact W.done s _ _ st.2 fun h' tk kk=>⟨rfl,I.turned (fun b o hb e=>kk b o (by simpa using hb) e) f0 f1 f3 f4 f5⟩
 self:=fun A i s Q E st h=>by
  rcases hT with rfl|rfl
  · exact wpAny_pyIter_striter_ascii st.2 h
  · exact wpAny_pyIter_striter_wide st.2 h
section
variable {X:Cx} {tg:Expr}
def iStr (tl:TE):TI:=fun σ H R=>tl σ H fun x H1=>∃z,x= .str z∧R (ItS z) H1
theorem oh {l:Expr} {tl:TE} (hl:PE X l tl):PI X tg l (iStr tl):=by
 intro pins s σ H R I h
 refine thn (hl pins s σ H _ I h) fun v s1 ⟨x,H1,I1,r1,q1⟩=> ?_
 obtain ⟨z,e,q⟩:=q1
 subst e
 obtain ⟨t,rfl⟩:=r1
 refine wpAny_pyIter_strU ?_
 refine ⟨s1.heap.objs.size,[s1.heap.objs.size],_,_,H1,rfl,I1.kept (t':=s1.toks) fun b o e=>Heap.get?_push_of_some _ e,n6 _ z t (strIterType z) (by unfold strIterType;split<;>simp),⟨vF _,_,Heap.get?_push_size _ rfl,rfl,rfl⟩,fun b hb=> ?_,q⟩
 have e:b=s1.heap.objs.size:=by simpa using hb
 subst e
 exact I1.fpOk (uW _) (I1.hok.fresh (uW _))
end
theorem kX {z:Str} {g:TG} {tb:TS} {D:Ends} {σ:L2.St} {H:Hp} (Pv:Nat→L2.St→Hp→Prop) (h0:Pv 0 σ H)
 (hs:∀i c σ H,z.cps[i]?=some c→Pv i σ H→g (.str ⟨#[c]⟩) σ H fun σ2 H2=>tb {D with nx:=Pv (i+1),ct:=Pv (i+1),bk:=D.nx} σ2 H2) (hd:∀σ H,Pv z.cps.size σ H→D.nx σ H):
 ∃W:Nat→Nat→L2.St→Hp→Prop,(∃m,W 0 m σ H)∧∀i m σ H,W i m σ H→
  ((ItS z).stop i H∧D.nx σ H)∨((ItS z).go i H∧∃N:L2.St→Hp→Prop,(∀σ' H',N σ' H'→∃m',m' < m∧W (i+1) m' σ' H')∧∀x H',(ItS z).yld i H x H'→g x σ H' fun σ2 H2=>tb {D with nx:=N,ct:=N,bk:=D.nx} σ2 H2):=by
 refine ⟨fun i m σ H=>m=z.cps.size - i∧i≤z.cps.size∧Pv i σ H,⟨z.cps.size,by simp,vF _,h0⟩,?_⟩
 rintro i m σ H ⟨rfl,hi,p⟩
 by_cases hlt:i < z.cps.size
 · refine .inr ⟨hlt,Pv (i+1),fun σ' H' p'=>⟨z.cps.size - (i+1),by omega,rfl,hlt,p'⟩,fun x H' y=> ?_⟩
   obtain ⟨e,c,ec,y⟩:=y
   subst e y
   exact hs i c σ _ ec p
 · have e:i=z.cps.size:=by omega
   subst e
   exact .inl ⟨uW _,hd σ H p⟩
open PySem PySem.Spec PyProof.Rows
theorem m9:typeLookup (.type "list_reverseiterator") "__len__"=pure none:=by rw [typeLookup_type,builtinLookup_eq_fast];kernel_rfl
theorem oY:typeLookup (.type "list_reverseiterator") "__length_hint__"=pure (some (.builtin "list_reverseiterator.__length_hint__")):=by rw [typeLookup_type,builtinLookup_eq_fast];kernel_rfl
section
variable {prog:Program} {w:World} {A:Around} {E:Value→Shared→Prop} {s:Shared}
theorem j8 {I l:Addr} {items:Array Value} {Q:List Value→Shared→Prop} (hh:A.handled=none) (hne:l≠I) (hit:s.heap.IsRevIter I l ((items.size:Int) - 1)) (hl:s.heap.IsList l items) (hn:items.size≤sizeLine)
 (hQ:∀s' acc,Moved [I] (fun a b=>b=a) s s'→ItemsOf (fun i v=>items[items.size - 1 - i]?=some v) acc items.size→Q acc.toList s'):wpAny (model prog w) A (collect (.ref I)) Q E s:=by
 have W:=(Walks.listRev (prog:=prog) (w:=w) (A:=A.in1) hh I l hne items).toS
 have ltI:I < s.heap.objs.size:=by obtain ⟨o,e,_⟩:=hit;exact Heap.lt_size e
 have ltl:l < s.heap.objs.size:=by obtain ⟨o,e,_⟩:=hl;exact Heap.lt_size e
 have st0:0≤items.size∧s.heap.IsRevIter I l ((items.size:Int) - 1 - ((0:Nat):Int))∧s.heap.IsList l items:=⟨vF _,by simpa using hit,hl⟩
 have new:∀b∈ [I,l],b≠s.heap.objs.size:=fun b hb=>by
  rcases vd.mp hb with rfl|hb
  · exact vf ltI
  · rw [vo.mp hb]
    exact vf ltl
 unfold collect
 refine wpAny_bind (wpAny_runValue (codeAny_builtin PySem.F.entry_proto_collect ?_))
 rw [Around.under_plainId PySem.F.plain_proto_collect _]
 show wpAny _ A.in1 (newList [] >>=fun x=>again (.builtin "list.__iadd__" ⟨[x, .ref I],[]⟩)) _ _ s
 refine wpAny_bind (wpAny_newObj_type ?_)
 refine wpAny_pure ⟨plainId_quiet PySem.F.plain_list_iadd _,codeAny_builtin PySem.F.entry_list_iadd ?_⟩
 rw [Around.under_plainId PySem.F.plain_list_iadd _]
 generalize hs1:({s with heap:=s.heap.push {cls:= .type "list",data:= .seq ([]:List Value).toArray}}:Shared)=s1
 have st1:0≤items.size∧s1.heap.IsRevIter I l ((items.size:Int) - 1 - ((0:Nat):Int))∧s1.heap.IsList l items:=by
  subst hs1
  exact ⟨vF _,st0.2.1.at fun o e=>Heap.get?_push_of_some _ e,st0.2.2.at fun o e=>Heap.get?_push_of_some _ e⟩
 have hT:s1.TypeIs (.ref I) "list_reverseiterator":=st1.2.1.typeIs
 have h1:Builtin.List.listSameRef (.ref s.heap.objs.size) (.ref I)=false:=by simp [Builtin.List.listSameRef,(vf ltI).symm]
 show wpAny _ A.in1 (Builtin.List.listExtendWith (.ref s.heap.objs.size) (.ref I) (.ref s.heap.objs.size)) _ _ s1
 unfold Builtin.List.listExtendWith
 refine wpAny_bind (wpAny_typeOf hT ?_)
 rw [if_neg (by rw [h1];decide)]
 refine wpAny_bind (wpAny_pyIter_revIter st1.2.1 ?_)
 refine wpAny_bind (wpAny_holding ?_)
 unfold Builtin.List.listLengthHint
 refine wpAny_bind (wpAny_specialOf hT m9 ?_)
 show wpAny _ A.in1 (specialOf (Value.ref I) (Str.ofString "__length_hint__") >>=_) _ _ _
 refine wpAny_bind (wpAny_specialOf hT oY ?_)
 generalize hid:("list_reverseiterator.__length_hint__":String)=nm
 (fail_if_success (clear hid nm))
 wp_delta
 rw [show splitId nm=some ("list_reverseiterator","__length_hint__") by subst hid;decide +kernel]
 subst hid
 refine wpAny_bind (wpAny_isInstance (b:=true) hT (by rw [isSubtype_type];kernel_rfl) ?_)
 refine wpAny_pure ?_
 rw [if_neg (by decide)]
 have hS1:s1.heap.get? s.heap.objs.size=some {cls:= .type "list",data:= .seq ([]:List Value).toArray}:=by
  subst hs1
  exact Heap.get?_push_size _ rfl
 refine wpAny_pure ⟨plainId_quiet PySem.F.plain_extend_loop _,codeAny_extend_loopS W hn _ (fun m=>new _ m rfl) _ items.size 0 _ _ _ rfl (vF _) st1 hS1 (ItemsOf.nil _) fun s' acc c' hm hS' hacc=> ?_⟩
 show wpAny _ A (load s.heap.objs.size >>=_) _ _ s'
 refine wpAny_bind (wpAny_load hS' ?_)
 refine wpAny_pure (hQ s' acc ?_ hacc)
 subst hs1
 exact Moved.drop_new (o:= {cls:= .type "list",data:= .seq ([]:List Value).toArray}) (tk:=s.toks) hm (uW _)
end
section
variable {X:Cx}
theorem lV {items acc:Array Value} {ys:List Str} (r:Vals (ys.map V.str) items.toList) (h:ItemsOf (fun i v=>items[items.size - 1 - i]?=some v) acc items.size):∃l:List (Str×Tok),strValues l=acc.toList∧l.map (·.1)=ys.reverse:=by
 have e:acc.toList=items.toList.reverse:=by
  refine List.ext_getElem? fun j=> ?_
  by_cases hj:j < items.size
  · have hj':j < acc.size:=by rw [h.1];exact hj
    have:=h.2 j _ (Array.getElem?_eq_getElem hj')
    rw [vE,Array.getElem?_eq_getElem hj',←this,List.getElem?_reverse (by simpa using hj),vE,vy]
  · rw [List.getElem?_eq_none (by rw [vy,h.1];omega),List.getElem?_eq_none (by rw [List.length_reverse,vy];omega)]
 rw [e]
 generalize items.toList=us at r
 clear e h
 induction ys generalizing us with
 |nil=>cases r;exact ⟨[],rfl,rfl⟩
 |cons y ys ih=>
  rw [uZ] at r
  cases r with
  |cons r1 r2=>
   obtain ⟨t,rfl⟩:=r1
   obtain ⟨l,e1,e2⟩:=ih _ r2
   refine ⟨l++ [(y,t)],?_,?_⟩
   · rw [List.reverse_cons,←e1]
     unfold strValues
     rw [vp]
     rfl
   · rw [vp,e2,List.reverse_cons]
     rfl
theorem oW (hc:X.calm=true) {pins:List (Addr×Obj)} {σ:L2.St} {H:Hp} {s:Shared} {Q:VK} {sep:Str} {t:Tok} {p l:Addr} {ys:List Str} (I:Inv X pins σ H s) (fp:FpOk X pins H p) (hl:H l=some (.lst (ys.map V.str)))
 (hit:s.heap.IsRevIter p l ((ys.length:Int) - 1)) (hz:(ys.map (·.length)).sum+ys.length*sep.length≤16777216) (q:Q (.str (Txt.join sep ys.reverse)) H):
 wpAny (model X.prog X.w) X.A (call (.builtin "str.join") [.str sep t, .ref p]) (EP X pins σ Q) X.xe s:=by
 obtain ⟨f0,f1,f2,f3,f4,f5⟩:=fp
 obtain ⟨its,r,pl,hsz⟩:=I.list (SqL.of hl)
 have hne:l≠p:=fun e=>by rw [e,f0] at hl;cases hl
 have e:its.toArray.size=ys.length:=by rw [uY,←r.length,uT]
 have hit':s.heap.IsRevIter p l ((its.toArray.size:Int) - 1):=by rw [e];exact hit
 have hn:ys.length≤sizeLine:=by
  have:=(show ObjOk X.prog X.w H s.heap l (.lst (ys.map V.str)) from I.hok l _ hl).1
  rw [uT] at this
  exact this
 refine wpAny_call (codeAny_call_builtin PySem.F.slot_str_join.plain PySem.F.entry_str_join (PySem.F.slot_str_join.check _ _ _ _ _ _ _ _ (typeIs_str _ _ _) (PySem.F.args_str_join_2 _ _) ?_))
 rw [join_tree_other]
 refine wpAny_bind (wpAny_typeOf hit.typeIs ?_)
 show wpAny _ X.A.in1 ((pyIter (.ref p)).tryCatch _ >>=fun it=>collect it >>=fun items=>_) _ _ s
 refine wpAny_bind (wpAny_tryCatch (wpAny_pyIter_revIter hit ?_))
 refine wpAny_bind (j8 (I.ok.hd hc) hne hit' pl.isList (by rw [e];exact hn) fun s' acc hm hacc=> ?_)
 obtain ⟨pr,e1,e2⟩:=lV (items:=its.toArray) (by simpa using r) hacc
 rw [←e1]
 have hok:JoinOk sep (pr.map (·.1))=true:=by
  rw [e2]
  refine joinOk_of ?_
  rw [List.map_reverse,List.sum_reverse,List.length_reverse]
  exact hz
 unfold JoinOk at hok
 rw [Bool.not_eq_true'] at hok
 have g:Gives (PySem.joinTail sep (strValues pr)) (joinMade sep pr):=by
  have g0:=gives_joinTail sep pr hok
  cases pr with
  |nil=>exact g0
  |cons a b=>cases b with
   |nil=>exact g0
   |cons c d=>exact g0
 refine g X.prog X.w X.A (wants (EP X pins σ Q) X.xe) s' (post_join pr ⟨joinFit_length hok,fun t' k=> ?_⟩)
 rw [e2]
 have I2:Inv X pins σ H {s with heap:=s'.heap,toks:=k}:=I.turned (fun b o hb e=>hm.heap b o (by simpa using hb) e) f0 f1 f3 f4 f5
 have es:({s' with toks:=k}:Shared)= {s with heap:=s'.heap,toks:=k}:=by
  rw [show s'.gens=s.gens from hm.gens,hm.drawn,hm.os]
 rw [es]
 exact ⟨.str _,H,I2,⟨_,rfl⟩,q⟩
def tJR (sep:Str) (te:TE):TE:=fun σ H Q=>te σ H fun x H1=>∃(l:Addr) (ys:List Str),x= .ref l∧H1 l=some (.lst (ys.map V.str))∧(ys.map (·.length)).sum+ys.length*sep.length≤16777216∧Q (.str (Txt.join sep ys.reverse)) H1
theorem pI:bootBuiltins "reversed"=some (.type "reversed"):=by decide +kernel
theorem oj {sep:Str} {e:Expr} {te:TE} {j:Nat} {p0 p1 pos apos cpos:Pos} (hc:X.calm=true) (hg:Gl X "reversed") (hm:X.mg "reversed"=none) (he:PE X e te)
 (hbase:attributeBase (.Constant (.str sep) j p0) "join" X.env (eval (.Constant (.str sep) j p0) X.env)=eval (.Constant (.str sep) j p0) X.env:=by rfl)
 (hfew:((backTo cpos (starEach [.Call (.Name "reversed" p1) [e] [] pos] X.env)).all (fun x=> !x.1)&& (backToKw cpos (keywordEach [] X.env)).all (fun x=>x.1.isSome)
  &&decide ([Expr.Call (.Name "reversed" p1) [e] [] pos].length+([]:List Keyword).length+(if ([]:List Keyword).isEmpty then 0 else 1) < 30))=true:=by rfl)
 (hline:(apos.endLine==cpos.line)=true:=by rfl) (hs:starEach [.Call (.Name "reversed" p1) [e] [] pos] X.env= [(false,eval (.Call (.Name "reversed" p1) [e] [] pos) X.env)]:=by rfl)
 (hs2:starEach [e] X.env= [(false,eval e X.env)]:=by rfl):
 PE X (.Call (.Attribute (.Constant (.str sep) j p0) "join" apos) [.Call (.Name "reversed" p1) [e] [] pos] [] cpos) (tJR sep te):=by
 intro pins s σ H Q I h
 refine wpAny_Call_method_late hbase hfew hline rfl (thn ((ad (X:=X)) pins s σ H (fun x H1=>x= .str sep∧H1=H) I ⟨rfl,rfl⟩) fun v s1 ⟨x,H1,I1,r1,ex,eH⟩=> ?_)
 subst ex eH
 obtain ⟨t,rfl⟩:=r1
 refine ⟨"str","str.join",PySem.F.plainAttrs_str,PySem.F.slot_str_join,PySem.F.type_str_join,typeIs_str _ _ _,fun a ea=>(by cases ea),?_⟩
 rw [hs]
 refine Calls.callWith_builtin rfl (Calls.evalArgs_plain ?_)
 show wpAny _ _ (spliced [(false,eval (.Call (.Name "reversed" p1) [e] [] pos) X.env)]) _ _ s1
 refine Calls.spliced_cons ?_
 refine wpAny_Call_Name_kw (cT I1 hg hm pI ?_ (by decide) (by decide))
 refine PyProof.Rows.callWith_type1 (thn ((a7 he a8 hs2) pos pins s1 σ H1 (fun vs H2=>match vs with| [x]=>∃(l:Addr) (ys:List Str),x= .ref l∧H2 l=some (.lst (ys.map V.str))∧(ys.map (·.length)).sum+ys.length*sep.length≤16777216∧Q (.str (Txt.join sep ys.reverse)) H2|_=>False) I1 h) fun us s2 ⟨vs,H2,I2,r2,q2⟩=> ?_) hs2 rfl
 match vs,r2,q2 with
 | [_],r2,⟨l,ys,ex,hl,hz,q⟩=>
  subst ex
  obtain ⟨u,rfl,ru⟩:=r2.one
  cases ru
  obtain ⟨its,rv,pl,_⟩:=I2.list (SqL.of hl)
  have el:its.toArray.size=ys.length:=by rw [uY,←rv.length,uT]
  refine call_reversed_list pl.isList ?_
  refine Calls.spliced_nil ?_
  rw [el]
  have I3:Inv X pins σ H2 {s2 with heap:=s2.heap.push (revObj l ((ys.length:Int) - 1))}:=I2.kept (t':=s2.toks) fun b o e=>Heap.get?_push_of_some _ e
  exact oW hc I3 (I2.fpOk (uW _) (I2.hok.fresh (uW _))) hl ⟨_,Heap.get?_push_size _ rfl,rfl,rfl⟩ hz q
end
end L2
namespace Dec
open PySem PySem.NumText
def cl (x:Str):List Nat:=x.cps.toList
theorem cj (x y:Str):cl (x++y)=cl x++cl y:=by
 show (x.cps++y.cps).toList=_
 simp [cl]
theorem fO {x y:Str} (h:cl x=cl y):x=y:=by
 cases x
 cases y
 simp only [Str.mk.injEq]
 exact Array.toList_inj.mp h
theorem aG (x:Str):(cl x).length=x.length:=by simp [cl,Str.length]
def ds (n:Nat):List Nat:=(Nat.toDigits 10 n).map Char.toNat
theorem jH:∀d:Nat,d < 10→(Nat.digitChar d).toNat=48+d:=by decide
theorem fB {n:Nat} (h:n < 10):ds n= [48+n]:=by
 unfold ds
 rw [Nat.toDigits_of_lt_base h]
 show [(Nat.digitChar n).toNat]=_
 rw [jH n h]
theorem dI {n:Nat} (h:10≤n):ds n=ds (n / 10)++ [48+n%10]:=by
 have hm:n%10 < 10:=Nat.mod_lt n (by decide)
 have t:Nat.toDigits 10 (n / 10)++Nat.toDigits 10 (n%10)=Nat.toDigits 10 (10*(n / 10)+n%10):=Nat.toDigits_append_toDigits (by decide) (by omega) hm
 rw [Nat.div_add_mod] at t
 have e:=fB hm
 unfold ds at e ⊢
 rw [←t,vp,e]
theorem cB (n:Nat):digitsVal (ds n)=n:=PySem.W.KIN.val_back n
theorem dc:∀n:Nat,AllDigits (ds n):=by
 intro n
 induction n using Nat.strongRecOn with
 |_ n ih=>
  by_cases h:n < 10
  · rw [fB h]
    intro c m
    rw [vo.mp m]
    omega
  · rw [dI (by omega)]
    intro c m
    rcases vH.mp m with m|m
    · exact ih (n / 10) (by omega) c m
    · rw [vo.mp m]
      omega
theorem lj (n:Nat):ds n≠ []:=by
 by_cases h:n < 10
 · rw [fB h]
   simp
 · rw [dI (by omega)]
   simp
theorem dY:∀(k:Nat) {n:Nat},n < 10^(k+1)→(ds n).length≤k+1
 |0,n,h=>by rw [fB (by simpa using h)];simp
 |k+1,n,h=>by
  by_cases q:n < 10
  · rw [fB q]
    simp
  · rw [dI (by omega),vc]
    have:=dY k (n:=n / 10) (by rw [Nat.pow_succ] at h;omega)
    simp only [uU,vR]
    omega
theorem tX {m n:Nat} (h:ds m=ds n):m=n:=by rw [←cB m,h,cB]
theorem fq:∀(b:List Nat) (a:Nat),b.foldl (fun acc c=>acc*10+(c - 48)) a=a*10^b.length+digitsVal b
 | [],a=>by simp [digitsVal]
 |c::b,a=>by
  unfold digitsVal
  simp only [List.foldl_cons,uU]
  rw [fq b (a*10+(c - 48)),fq b (0*10+(c - 48)),Nat.pow_succ]
  rw [Nat.add_mul,Nat.add_mul,Nat.mul_assoc,Nat.mul_comm 10]
  omega
theorem jS (a b:List Nat):digitsVal (a++b)=digitsVal a*10^b.length+digitsVal b:=by
 unfold digitsVal
 rw [List.foldl_append]
 exact fq b _
theorem gX:∀ {l:List Nat},AllDigits l→digitsVal l < 10^l.length
 | [],_=>by simp [digitsVal]
 |c::l,h=>by
  have e:=jS [c] l
  have h1:=gX h.tail
  have h2:=h.head
  have e2:digitsVal [c]=c - 48:=by simp [digitsVal]
  rw [List.singleton_append,e2] at e
  rw [e,uU,Nat.pow_succ]
  have:(c - 48)*10^l.length≤9*10^l.length:=Nat.mul_le_mul_right _ (by omega)
  omega
noncomputable def pad:Nat→Nat→List Nat
 |0,_=> []
 |k+1,r=>pad k (r / 10)++ [48+r%10]
theorem kc:∀k r,(pad k r).length=k
 |0,_=>rfl
 |k+1,r=>by simp [pad,kc k]
theorem iI:∀k,pad k 0=List.replicate k 48
 |0=>rfl
 |k+1=>by
  show pad k (0 / 10)++ [48+0%10]=_
  rw [Nat.zero_div,iI k,List.replicate_succ']
theorem pp {q:Nat} (hq:0 < q):∀(k:Nat) {r:Nat},r < 10^k→ds (q*10^k+r)=ds q++pad k r
 |0,r,h=>by
  have:r=0:=by simpa using h
  subst this
  simp [pad]
 |k+1,r,h=>by
  have e:q*10^(k+1)+r=10*(q*10^k)+r:=by rw [Nat.pow_succ,←Nat.mul_assoc,Nat.mul_comm]
  have h10:10≤q*10^(k+1)+r:=by
   have:1≤q*10^k:=Nat.mul_pos hq (Nat.pow_pos (by decide))
   omega
  rw [dI h10]
  have e1:(q*10^(k+1)+r) / 10=q*10^k+r / 10:=by omega
  have e2:(q*10^(k+1)+r)%10=r%10:=by omega
  rw [e1,e2,pp hq k (r:=r / 10) (by rw [Nat.pow_succ] at h;omega)]
  simp [pad]
theorem zf:∀(k:Nat) {r:Nat},r < 10^(k+1)→List.replicate (k+1 - (ds r).length) 48++ds r=pad (k+1) r
 |0,r,h=>by
  have h:r < 10:=by simpa using h
  rw [fB h]
  show [48+r]= [48+r%10]
  rw [Nat.mod_eq_of_lt h]
 |k+1,r,h=>by
  by_cases q:r < 10
  · rw [fB q]
    show List.replicate (k+1+1 - 1) 48++ [48+r]=pad (k+1) (r / 10)++ [48+r%10]
    rw [Nat.mod_eq_of_lt q,Nat.div_eq_of_lt q,iI]
    rfl
  · rw [dI (by omega)]
    have:=zf k (r:=r / 10) (by rw [Nat.pow_succ] at h;omega)
    show _=pad (k+1) (r / 10)++ [48+r%10]
    rw [←this,vc]
    simp
open PySem PySem.NumText L2 Mth
theorem pE {z:Str} {r k:Nat} (h:cl z=ds r) (hr:r < 10^(k+1)):cl (Txt.zfill z ((k+1:Nat):Int))=pad (k+1) r:=by
 have hl:=dY k hr
 have hz:z.length=(ds r).length:=by rw [←aG,h]
 rw [←zf k hr]
 unfold Txt.zfill
 by_cases q:((k+1:Nat):Int)≤(z.length:Int)
 · rw [if_pos q,h,show k+1 - (ds r).length=0 by omega]
   rfl
 · rw [if_neg q]
   unfold zfilled
   have hd:∀c,z.cps[0]?=some c→48≤c∧c≤57:=fun c e=>by
    refine dc r c ?_
    rw [←h]
    exact Array.mem_toList_iff.mpr (Array.mem_of_getElem? e)
   have hp:cl (Builtin.Str.padded z (((k+1:Nat):Int).toNat - z.length) 0 48)=List.replicate (k+1 - (ds r).length) 48++ds r:=by
    unfold Builtin.Str.padded cl
    simp only [Array.toList_append,Array.toList_replicate,List.replicate_zero,vB]
    rw [←hz,←h]
    rfl
   split
   · rename_i e
     have:=hd _ e
     omega
   · rename_i e
     have:=hd _ e
     omega
   · exact hp
theorem rR (c:Nat) (h:c < 128):Unicode.isDigit c=decide (48≤c∧c≤57):=by
 have:∀c,c < 128→Unicode.isDigit c=decide (48≤c∧c≤57):=by decide +kernel
 exact this c h
theorem qV (z:Str):(Txt.isascii z=true∧Txt.isdigit z=true)↔(cl z≠ []∧AllDigits (cl z)):=by
 unfold Txt.isascii Txt.isdigit
 rw [v4,←Array.all_toList,←Array.all_toList,vj,vj]
 have hl:(decide (z.length > 0)=true)↔cl z≠ []:=by
  rw [decide_eq_true_iff,←aG]
  exact List.length_pos_iff
 rw [hl]
 constructor
 · rintro ⟨h1,h2,h3⟩
   refine ⟨h2,fun c m=> ?_⟩
   have:=h3 c m
   rw [rR c (by simpa using h1 c m)] at this
   simpa using this
 · rintro ⟨h1,h2⟩
   refine ⟨fun c m=> ?_,h1,fun c m=> ?_⟩
   · have:=(h2 c m).2
     simp
     omega
   · rw [rR c (by have:=(h2 c m).2;omega)]
     simpa using h2 c m
def sl:Str:=Str.ofString "/"
theorem rG:sl=⟨#[47]⟩:=by decide +kernel
theorem jN {z:Str} {d hi i:Nat} (h:StrLaws.At z ⟨#[d]⟩ hi i):(cl z)[i]?=some d:=by
 obtain ⟨_,h⟩:=h
 unfold Builtin.Str.subAt at h
 have e:z.cps.extract i (i+1)= #[d]:=eq_of_beq h
 have e2:((cl z).drop i).take 1= [d]:=by
  have:=congrArg Array.toList e
  rw [Array.toList_extract] at this
  simpa [cl,List.extract_eq_drop_take] using this
 have e3:((cl z).drop i)[0]?=some d:=by
  cases q:(cl z).drop i with
  |nil=>rw [q] at e2;simp at e2
  |cons a b=>rw [q] at e2;simp at e2;simp [e2]
 simpa using e3
theorem uS {z:Str} {d i:Nat} (h:(cl z)[i]?=some d):StrLaws.At z ⟨#[d]⟩ z.length i:=by
 have hi:i < (cl z).length:=(vg.mp h).1
 refine ⟨by show i+1≤z.length;rw [←aG];omega,?_⟩
 unfold Builtin.Str.subAt
 have e:z.cps.extract i (i+1)= #[d]:=by
  apply Array.toList_inj.mp
  rw [Array.toList_extract,List.extract_eq_drop_take,show i+1 - i=1 by omega]
  show ((cl z).drop i).take 1= [d]
  rw [vQ hi]
  have:=(vg.mp h).2
  simp [this]
 show (z.cps.extract i (i+1)== #[d])=true
 rw [e]
 simp
theorem tq {a b:List Nat} {d i:Nat} (ha:¬d∈a) (hb:¬d∈b) (h:(a++d::b)[i]?=some d):i=a.length:=by
 by_cases h1:i < a.length
 · rw [List.getElem?_append_left h1] at h
   exact absurd (vi h) ha
 · by_cases h2:i=a.length
   · exact h2
   · rw [List.getElem?_append_right (by omega)] at h
     obtain ⟨j,e⟩:∃j,i - a.length=j+1:=⟨i - a.length - 1,by omega⟩
     rw [e,List.getElem?_cons_succ] at h
     exact absurd (vi h) hb
theorem oz {z:Str} {d lim:Nat} (h:¬d∈cl z):Builtin.Str.occurrences z ⟨#[d]⟩ 0 z.length lim= []:=by
 refine PySem.W.occ_nil_of_no _ _ lim fun i hi=> ?_
 cases q:Builtin.Str.subAt z ⟨#[d]⟩ i with
 |false=>rfl
 |true=>exact absurd (vi (jN ⟨hi,q⟩)) h
theorem qF {z:Str} {a b:List Nat} {d:Nat} (e:cl z=a++d::b) (ha:¬d∈a) (hb:¬d∈b):∃r,Builtin.Str.occurrences z ⟨#[d]⟩ 0 z.length 1=a.length::r:=by
 have h:=StrLaws.found_one z d
 rw [decide_eq_true (show d∈z.cps.toList by show d∈cl z;rw [e];simp)] at h
 cases q:Builtin.Str.occurrences z ⟨#[d]⟩ 0 z.length 1 with
 |nil=>rw [q] at h;simp at h
 |cons i r=>
  have:=StrLaws.occ_spec z ⟨#[d]⟩ 0 z.length 1 i (by rw [q];exact v7)
  have ei:i=a.length:=tq ha hb (e▸jN this)
  subst ei
  exact ⟨r,rfl⟩
theorem jK (z:Str) (i j:Nat):cl (Builtin.Str.strSub z i j)=((cl z).take j).drop i:=by
 unfold Builtin.Str.strSub cl
 simp [List.extract_eq_drop_take,List.drop_take]
theorem oo {z:Str} {a b:List Nat} (e:cl z=a++47::b) (ha:¬47∈a) (hb:¬47∈b):cl (aT z sl).1=a∧(aT z sl).2.1=sl∧cl (aT z sl).2.2=b:=by
 obtain ⟨r,o⟩:=qF e ha hb
 unfold aT
 rw [rG,o]
 refine ⟨?_,rfl,?_⟩
 · rw [jK,e]
   simp
 · show cl (Builtin.Str.strSub z (a.length+1) z.length)=b
   rw [jK,←aG z,vU,e]
   simp
theorem lZ {z:Str} (h:¬47∈cl z):aT z sl=(z,Str.empty,Str.empty):=by
 unfold aT
 rw [rG,oz h]
open PySem PySem.NumText L2 Mth
def sg (x:Int):List Nat:=if x < 0 then [45] else []
noncomputable def low (x y:Int):List Nat:=ds x.natAbs++(if y=1 then [] else 47::ds y.natAbs)
noncomputable def txt (x y:Int):List Nat:=sg x++low x y
theorem gH {n c:Nat} (h:c < 48):¬c∈ds n:=fun m=>by
 have:=(dc n c m).1
 omega
noncomputable def nu:List Nat→List Nat
 | []=> []
 |c::r=>if c=45 then r else c::r
theorem iS (x y:Int):∃c r,low x y=c::r∧c≠45:=by
 unfold low
 cases q:ds x.natAbs with
 |nil=>exact absurd q (lj _)
 |cons c r=>
  refine ⟨c,_,rfl,fun e=> ?_⟩
  have:=gH (n:=x.natAbs) (c:=45) (by decide)
  rw [q,e] at this
  exact this v7
theorem lQ (x y:Int):nu (txt x y)=low x y:=by
 unfold txt sg
 obtain ⟨c,r,e,h⟩:=iS x y
 split
 · rfl
 · rw [e]
   show (if c=45 then r else c::r)=c::r
   rw [if_neg h]
def mn:Str:=Str.ofString "-"
theorem rN:mn=⟨#[45]⟩:=by decide +kernel
theorem gc (z:Str):Txt.startswith z mn=decide ((cl z)[0]?=some 45):=by
 rw [rN,vD,decide_eq_true_iff]
 unfold Txt.startswith
 rw [v4,decide_eq_true_iff]
 constructor
 · rintro ⟨h1,h2⟩
   exact jN (hi:=z.length) ⟨h1,h2⟩
 · intro h
   exact uS h
theorem se (z:Str):cl (Txt.removeprefix z mn)=nu (cl z):=by
 rw [StrLaws.removeprefix_eq]
 have h:=gc z
 unfold Txt.startswith at h
 rw [h,rN]
 cases q:cl z with
 |nil=>
  rw [decide_eq_false (by simp)]
  rw [if_neg v5,q]
  rfl
 |cons c r=>
  show _=if c=45 then r else c::r
  by_cases e:c=45
  · subst e
    rw [decide_eq_true (by rfl),if_pos rfl,if_pos rfl]
    show List.take _ (List.drop 1 (cl z))=r
    rw [←aG,q]
    simp
    rw [List.take_of_length_le]
    show r.length≤r.length+1 - 1
    omega
  · rw [decide_eq_false (by simp [e]),if_neg v5,if_neg e,q]
def side (y:Int):List Nat:=if y=1 then [49] else ds y.natAbs
theorem iE {y:Int} (h:0 < y):digitsVal (side y)=y.natAbs:=by
 unfold side
 split
 · rename_i e
   subst e
   rfl
 · exact cB _
theorem iF (y:Int):AllDigits (side y)∧side y≠ []:=by
 unfold side
 split
 · exact ⟨fun c m=>by rw [vo.mp m];omega,by simp⟩
 · exact ⟨dc _,lj _⟩
theorem pZ (x:Int):(if x < 0 then -1 else 1)*(x.natAbs:Int)=x:=by
 split<;>omega
theorem iZ {x y:Int} (h:cU x y):fx x y=x∧fy x y=y:=by
 obtain ⟨h0,hg⟩:=h
 unfold fx fy dv
 rw [hg,if_neg (by omega)]
 exact ⟨Int.fdiv_one x,Int.fdiv_one y⟩
theorem p5 {t b:Int} (h:0 < b):fx t b=t / (Int.gcd t b:Int)∧fy t b=b / (Int.gcd t b:Int):=by
 unfold fx fy dv
 rw [if_neg (by omega)]
 exact ⟨vM _ (by omega),vM _ (by omega)⟩
theorem gY {l:List Nat} (h:AllDigits l) (hl:l.length≤200):Big ((digitsVal l:Nat):Int):=by
 unfold Big
 have h1:=gX h
 have h2:10^l.length≤10^200:=Nat.pow_le_pow_right (by decide) hl
 have h3:(10:Nat)^200 < 2^700:=by decide +kernel
 rw [vP]
 omega
end Dec
namespace Su
open PySem L2 Tre Mth Wd
def rv (p:Fr):Rat:=(p.1:Rat) / (p.2:Rat)
abbrev Sh (p:Fr):Prop:=cU p.1 p.2
theorem ne0 {b:Int} (h:0 < b):(b:Rat)≠0:=by
 simp only [ne_eq,Rat.intCast_eq_zero_iff]
 omega
theorem uk {p q:Fr} (h1:0 < p.2) (h2:0 < q.2):rv p=rv q↔p.1*q.2=q.1*p.2:=by
 have a:=ne0 h1
 have b:=ne0 h2
 unfold rv
 constructor
 · intro h
   have:(p.1:Rat)*q.2=q.1*p.2:=by grind
   exact_mod_cast this
 · intro h
   have:(p.1:Rat)*q.2=q.1*p.2:=by exact_mod_cast h
   grind
theorem nX {p q:Fr} (h1:Sh p) (h2:Sh q) (e:rv p=rv q):p=q:=by
 rw [uk h1.1 h2.1] at e
 obtain ⟨a,b⟩:=p
 obtain ⟨c,d⟩:=q
 obtain ⟨b0,g1⟩:=h1
 obtain ⟨d0,g2⟩:=h2
 dsimp only at*
 have n1:a.natAbs*d.natAbs=c.natAbs*b.natAbs:=by rw [←Int.natAbs_mul,←Int.natAbs_mul,e]
 have g1':Nat.Coprime b.natAbs a.natAbs:=by rw [Nat.coprime_comm];exact g1
 have g2':Nat.Coprime d.natAbs c.natAbs:=by rw [Nat.coprime_comm];exact g2
 have d1:b.natAbs∣d.natAbs:=g1'.dvd_of_dvd_mul_left ⟨c.natAbs,by rw [n1,Nat.mul_comm]⟩
 have d2:d.natAbs∣b.natAbs:=g2'.dvd_of_dvd_mul_left ⟨a.natAbs,by rw [←n1,Nat.mul_comm]⟩
 have e1:=Nat.dvd_antisymm d1 d2
 have e2:b=d:=by omega
 subst e2
 have e3:a=c:=Int.eq_of_mul_eq_mul_right (by omega) e
 rw [e3]
theorem pY:Sh zero:=⟨by decide,by decide⟩
theorem rv_zero:rv zero=0:=by
 show ((0:Int):Rat) / ((1:Int):Rat)=0
 have:((0:Int):Rat)=0:=by simp
 rw [this]
 grind
theorem ui {p:Fr} (h:Sh p):rv p=0↔p=zero:=by
 constructor
 · intro e
   exact nX h pY (e.trans rv_zero.symm)
 · rintro rfl
   exact rv_zero
abbrev Pq:=Tr×Fr
def prT (p:Pq):Tr:= .tup [p.1,frT p.2]
open Classical in
noncomputable def tot (t:Tr):List Pq→Rat
 | []=>0
 |p::r=>(if p.1=t then rv p.2 else 0)+tot t r
theorem eR {t:Tr}:∀ {l:List Pq},(∀p∈l,p.1≠t)→tot t l=0
 | [],_=>rfl
 |p::r,h=>by
  simp only [tot]
  rw [if_neg (h p v7),eR fun q m=>h q (uX _ m)]
  grind
abbrev Asc (us:List Pq):Prop:=us.Pairwise fun a b=>ltT a.1 b.1=true
theorem tz (t:Tr):ltT t t=false:=by
 cases e:ltT t t with
 |false=>rfl
 |true=>exact (oM e).symm.trans e |>.symm
theorem rP {t u:Tr} (h:ltT t u=true):t≠u:=fun z=>by
 rw [z,tz] at h
 cases h
theorem lI {us:List Pq} (h:Asc us) {p:Pq} (m:p∈us):tot p.1 us=rv p.2:=by
 induction us with
 |nil=>cases m
 |cons q r ih=>
  obtain ⟨h1,h2⟩:=List.pairwise_cons.mp h
  simp only [tot]
  rcases vd.mp m with e|m
  · subst e
    rw [if_pos rfl,eR fun x mx=>(rP (h1 x mx)).symm]
    grind
  · rw [if_neg (rP (h1 p m)),ih h2 m]
    grind
structure Can (ps us:List Pq):Prop where
 asc:Asc us
 sh:∀p∈us,Sh p.2∧p.2≠zero
 eq:∀t,tot t us=tot t ps
theorem Can.mem {ps us vs:List Pq} (h1:Can ps us) (h2:Can ps vs) {p:Pq} (m:p∈us):p∈vs:=by
 have e1:=lI h1.asc m
 rw [h1.eq,←h2.eq] at e1
 have n0:rv p.2≠0:=fun z=>(h1.sh p m).2 ((ui (h1.sh p m).1).mp z)
 refine Classical.byContradiction fun no=> ?_
 by_cases q:∀x∈vs,x.1≠p.1
 · rw [eR q] at e1
   exact n0 e1.symm
 · obtain ⟨x,hx⟩:=Classical.not_forall.mp q
   obtain ⟨mx,ex⟩:=Classical.not_imp.mp hx
   have ex:=Classical.not_not.mp ex
   have e2:=lI h2.asc mx
   rw [ex,e1] at e2
   have e3:=nX (h1.sh p m).1 (h2.sh x mx).1 e2
   have:x=p:=Prod.ext ex e3.symm
   rw [this] at mx
   exact no mx
theorem Can.to {ps qs us:List Pq} (h:Can ps us) (e:∀t,tot t ps=tot t qs):Can qs us:=⟨h.asc,h.sh,fun t=>(h.eq t).trans (e t)⟩
structure Run (ds us:List Pq):Prop where
 asc:Asc us
 sh:∀p∈us,Sh p.2
 eq:∀t,tot t us=tot t ds
 key:∀p∈us,∃d∈ds,d.1=p.1
theorem Run.nil:Run [] []:=⟨.nil,(fun p m=>by cases m),fun t=>rfl,fun p m=>by cases m⟩
theorem jl (t:Tr) {us:List Pq} (h:∀p∈us,Sh p.2):tot t (us.filter fun p=>decide (p.2≠zero))=tot t us:=by
 induction us with
 |nil=>rfl
 |cons p r ih=>
  have ih:=ih fun q m=>h q (uX _ m)
  rw [vO]
  by_cases z:p.2=zero
  · have e:decide (p.2≠zero)=false:=by simp [z]
    rw [e,if_neg (by decide),ih]
    simp only [tot,z,rv_zero]
    grind
  · have e:decide (p.2≠zero)=true:=by simp [z]
    rw [e,if_pos rfl]
    simp only [tot,ih]
theorem Run.fin {ps us:List Pq} (h:Run ps us):Can ps (us.filter fun p=>decide (p.2≠zero)):=by
 refine ⟨h.asc.filter _,fun p m=> ?_,fun t=>(jl t h.sh).trans (h.eq t)⟩
 obtain ⟨m1,m2⟩:=vq.mp m
 exact ⟨h.sh p m1,by simpa using m2⟩
end Su
namespace L2
open PySem PySem.Spec PyProof.Rows
section
variable {X:Cx}
end
end L2
namespace Tre
open PySem L2
end Tre
namespace Su
open PySem L2 Tre Mth Wd
structure Gq (e:Nat) (p:Pq):Prop where
 ty:Ty .tm p.1
 dep:p.1.depth≤7
 gf:Gf e p.2
 sh:Sh p.2
theorem Gq.pr {e:Nat} {p:Pq} (h:Gq e p):Ty .pr (prT p)∧(prT p).depth≤8:=by
 refine ⟨.pr _ _ h.ty (.fr _ _),?_⟩
 have:=h.dep
 unfold prT frT
 simp only [Tr.depth,Trs.depth]
 omega
open PySem L2 Tre Mth Wd
def m1:Fr:=(-1,1)
def p1:Fr:=(1,1)
end Su
namespace L2
theorem if_f {c:Bool} {p q:Prop} (h:c=false) (hq:q):if c=true then p else q:=by
 rw [h,if_neg (by decide)]
 exact hq
theorem ne_int {a b:Int} (h:a=b):(!decide (V.int a=V.int b))=false:=by
 rw [h,decide_eq_true rfl]
 rfl
theorem if_t {c:Bool} {p q:Prop} (h:c=true) (hp:p):if c=true then p else q:=by
 rw [h,if_pos rfl]
 exact hp
open PySem PySem.Spec PyProof.Rows
section
variable {X:Cx}
theorem eU:∀ {ys:List Str} {us:List Value},Vals (ys.map V.str) us→StrsAre us ys
 | [],_,r=>by cases r;exact .nil
 |y::ys,_,r=>by
  rw [uZ] at r
  cases r with
  |cons r1 r2=>
   obtain ⟨t,rfl⟩:=r1
   exact .cons y t (eU r2)
def uo (K:PySem.W.Frag):V→List V→Hp→VK→Prop:=fun x vs H Q=>∃(sep:Str) (l:Addr) (ys:List Str),x= .str sep∧vs= [.ref l]∧SqL K H l (ys.map V.str)∧(ys.map (·.length)).sum+ys.length*sep.length≤16777216∧Q (.str (Txt.join sep ys)) H
theorem kr:MtM X "str.join" (uo X.K):=by
 intro pins s σ H x vs v us Q I rx rv h
 obtain ⟨sep,l,ys,rfl,rfl,hl,hz,q⟩:=h
 obtain ⟨t,rfl⟩:=rx
 obtain ⟨u,rfl,ru⟩:=rv.one
 cases ru
 obtain ⟨its,r,p,_⟩:=I.list hl
 exact PyProof.Rows.join_list p.isList (by simpa using eU r) hz fun t' k=>⟨.str _,H,I.tok k,⟨_,rfl⟩,q⟩
def rSlS:V→Option Int→Option Int→Hp→VK→Prop:=fun x lo hi H Q=>∃(z:Str),x= .str z∧z.length≤sizeLine∧Q (.str (Txt.slice z lo hi)) H
theorem ci:SlR X rSlS:=by
 intro pins s σ H x v vl vu lo hi sl Q I rx hs pl pu h
 obtain ⟨z,rfl,hz,q⟩:=h
 obtain ⟨t,rfl⟩:=rx
 obtain ⟨o,ho,hc,hd⟩:=hs
 refine ⟨"str",_,PySem.F.slot_str_getitem.lookup,typeIs_str _ _ _,?_⟩
 cases pl with
 |none=>
  cases pu with
  |none=>exact wpAny_getItem_str_slice (l:=none) (u:=none) (st:=none) ⟨o,ho,hc,hd⟩ rfl (post_val_or_str ⟨vh (Txt.slice_le z none none) hz,fun t' k=>⟨.str _,H,I.tok k,⟨_,rfl⟩,q⟩⟩)
  |int j tj=>exact wpAny_getItem_str_slice (l:=none) (u:=some (j,tj)) (st:=none) ⟨o,ho,hc,hd⟩ rfl (post_val_or_str ⟨vh (Txt.slice_le z none (some j)) hz,fun t' k=>⟨.str _,H,I.tok k,⟨_,rfl⟩,q⟩⟩)
 |int i ti=>
  cases pu with
  |none=>exact wpAny_getItem_str_slice (l:=some (i,ti)) (u:=none) (st:=none) ⟨o,ho,hc,hd⟩ rfl (post_val_or_str ⟨vh (Txt.slice_le z (some i) none) hz,fun t' k=>⟨.str _,H,I.tok k,⟨_,rfl⟩,q⟩⟩)
  |int j tj=>exact wpAny_getItem_str_slice (l:=some (i,ti)) (u:=some (j,tj)) (st:=none) ⟨o,ho,hc,hd⟩ rfl (post_val_or_str ⟨vh (Txt.slice_le z (some i) (some j)) hz,fun t' k=>⟨.str _,H,I.tok k,⟨_,rfl⟩,q⟩⟩)
end
section
variable {X:Cx}
end
end L2
namespace Dec
open PySem PySem.NumText L2 Mth
theorem lF:∀(ys:List Str),cl (Txt.join (Str.ofString "") ys)=(ys.map cl).flatten:=by
 intro ys
 have e:Txt.join (Str.ofString "") ys=Str.join (Str.ofString "") ys:=StrLaws.glued_eq_join _ _
 have e0:cl (Str.ofString "")= []:=by decide +kernel
 rw [e]
 induction ys with
 |nil=>rfl
 |cons y ys ih=>
  cases ys with
  |nil=>
   show cl y= [cl y].flatten
   simp
  |cons z ys=>
   have e2:Str.join (Str.ofString "") (y::z::ys)=y++Str.ofString ""++Str.join (Str.ofString "") (z::ys):=rfl
   rw [e2,cj,cj,e0,ih (StrLaws.glued_eq_join _ _)]
   simp
theorem jL (m:Nat):cl (Str.ofString (toString ((m:Nat):Int)))=ds m:=PySem.W.KIN.signs_num m
theorem j4:∀(ps:List Str),((ps.map cl).flatten).length=(ps.map (·.length)).sum
 | []=>rfl
 |p::ps=>by
  simp only [uZ,vS,vc,List.sum_cons]
  rw [j4 ps,aG]
theorem j3 (ps:List Str):((ps.reverse.map cl).flatten).length=(ps.map (·.length)).sum:=by
 rw [j4,List.map_reverse,List.sum_reverse]
theorem nq:∀ {ps:List Str},(∀p∈ps,0 < p.length)→ps.length≤(ps.map (·.length)).sum
 | [],_=>uW _
 |p::ps,h=>by
  have h1:=h p v7
  have h2:=nq fun q m=>h q (uX p m)
  simp only [uZ,List.sum_cons,uU]
  omega
theorem oO {m:Nat} (h:m < 10^200):((m:Nat):Int).natAbs.log2 < 1920:=by
 rw [vP]
 by_cases z:m=0
 · subst z
   decide
 · rw [Nat.log2_lt z]
   exact v8 h (by decide +kernel)
theorem u5 (x:Int):(if x < 0 then -x else x)=(x.natAbs:Int):=by split<;>omega
theorem e_cl:cl (Str.ofString "")= []:=by decide +kernel
theorem m_cl:cl (Str.ofString "-")= [45]:=by decide +kernel
theorem s_cl:cl (Str.ofString "/")= [47]:=by decide +kernel
theorem aU (x y:Str):(x++y).length=x.length+y.length:=by rw [←aG,cj,vc,aG,aG]
end Dec
namespace Tw
open PySem L2 Tre Wd Mth Dec Su
def hd (k:Str):List Nat:=40::cl k
end Tw
namespace K85
open PySem PySem.NumText L2 Mth Dec Tre Wd
abbrev PW:Nat:=10^64
section
variable {P:Program} {w:World} {K:PySem.W.Frag} {mg:Str→Option Value} {base:Heap}
def spFg:Sp:=fun vs H Q _=>∃(n:Nat),vs= [.int (n:Int)]∧n < 10^200∧∀(z:Str) (H':Hp),Same H H'→cl z=ds n→Q (.str z) H'
theorem scFg:aN ["number","pieces"] ["number"] (af sFg):=⟨rfl,rfl,rfl,by decide +kernel,rfl,by decide +kernel,by decide +kernel⟩
theorem uB {f:Addr} {fd:FuncData} {tp tw:Tok} (F:Fun K "figures_of" "figures_of" sFg f fd) (B:Blt mg) (mP:mg "PIECE"=some (.int 64 tp)) (mW:mg "PIECE_WORTH"=some (.int ((PW:Nat):Int) tw)):FnOk P w K mg base CX0 1 f fd ["number"] spFg:=by
 refine F.ok scFg (fun vs H Q E h=> ?_) (fun cdv A outer s H vs Q E hr h=> ?_)
 · obtain ⟨n,rfl,_⟩:=h
   rfl
 obtain ⟨n,rfl,hn,k⟩:=h
 refine ⟨_,a9 (ar (i:=1) scFg.nd rfl (Or.inl rfl) (bj a8))
  (a9 (f8 PassesOwn.never (ah uu (pv 0) (aZ (v:= .int ((PW:Nat):Int)) rfl mW ⟨_,rfl⟩) (ao _))
   (a9 (c9 (bO PySem.F.plainAttrs_list PySem.F.slot_list_append PySem.F.type_list_append cr (pv 1) (a7
    (bO PySem.F.plainAttrs_str PySem.F.slot_str_zfill PySem.F.type_str_zfill oF (aJ bQ rfl B.st PyProof.Rows.boot_str (a7 (ak bZ (pv 0) (aZ (v:= .int ((PW:Nat):Int)) rfl mW ⟨_,rfl⟩)) a8)) (a7 (aZ (v:= .int 64) rfl mP ⟨_,rfl⟩) a8)) a8)))
   (ag (ar (i:=0) scFg.nd rfl (Or.inl rfl) (ak ou (pv 0) (aZ (v:= .int ((PW:Nat):Int)) rfl mW ⟨_,rfl⟩))))))
  (ag (aA (ak ay (aJ bQ rfl B.st PyProof.Rows.boot_str (a7 (pv 0) a8)) (oj rfl rfl B.rv (pv 1)))))),?_⟩
 have hL:(20000:Nat)≤sizeLine:=by decide +kernel
 refine ⟨by show 0≤sizeLine;decide,fun L nL=> ?_⟩
 refine eM (fun σ H'=>Same H H'∧∃(m:Nat) (ps:List Str),σ= [some (.int (m:Int)),some (.ref L)]∧H' L=some (.lst (ps.map V.str))∧(∀p∈ps,0 < p.length)∧m≤n∧ds n=ds m++(ps.reverse.map cl).flatten)
  (fun σ _=>match σ with| [some (.int y),_]=>y.natAbs|_=>0) ⟨ae nL,n,[],rfl,aa,(fun p m=>by cases m),uW _,by simp⟩ ?_ ?_
 · rintro σ H' ⟨sH,m,ps,rfl,hLs,hp,hm,e⟩
   have hm200:m < 10^200:=vA hm hn
   have hlen:=congrArg List.length e
   rw [vc,j3] at hlen
   have hn2:=dY 199 hn
   have hps:=nq hp
   refine ⟨_,rfl,_,_,rfl,rfl,_,rfl,?_⟩
   by_cases z:((PW:Nat):Int)≤(m:Int)
   · have zN:PW≤m:=by omega
     rw [decide_eq_true z]
     refine iteT ?_
     have er:(m:Int)%((PW:Nat):Int)=((m%PW:Nat):Int):=(Int.natCast_emod m PW).symm
     have ed:(m:Int) / ((PW:Nat):Int)=((m / PW:Nat):Int):=(Int.natCast_ediv m PW).symm
     have hr64:m%PW < PW:=Nat.mod_lt _ (Nat.pow_pos (by decide))
     have key:cl (Str.ofString (toString ((m:Int)%((PW:Nat):Int))))=ds (m%PW):=by rw [er];exact jL _
     have hlog:((m:Int)%((PW:Nat):Int)).natAbs.log2 < 1920:=by rw [er];exact oO (v8 hr64 (by decide +kernel))
     have hz:=pE (k:=63) key hr64
     refine ⟨_,rfl, .inl ⟨rfl,_,SqL.of hLs⟩,_,rfl,_,_,rfl,rfl,by show (0:Int) < ((PW:Nat):Int);decide +kernel,_,rfl,hlog,rfl,_,64,rfl,rfl,by decide +kernel,L,_,_,rfl,rfl,hLs,by rw [uT];omega,?_⟩
     refine ⟨_,rfl,_,_,rfl,rfl,⟨by show (0:Int) < ((PW:Nat):Int);decide +kernel,by show (((PW:Nat):Int)).natAbs < 2^8000;decide +kernel⟩,?_⟩
     refine ⟨⟨b8 nL sH,m / PW,ps++ [Txt.zfill (Str.ofString (toString ((m:Int)%((PW:Nat):Int)))) 64],?_,?_,fun p mp=> ?_,vh (Nat.div_le_self _ _) hm,?_⟩,?_⟩
     · rw [←ed]
       rfl
     · rw [aa,vp]
       rfl
     · rcases vH.mp mp with mp|mp
       · exact hp p mp
       · rw [vo.mp mp,←aG]
         show 0 < (cl (Txt.zfill _ ((63+1:Nat):Int))).length
         rw [hz,kc]
         decide
     · have e2:=pp (q:=m / PW) (Nat.div_pos zN (Nat.pow_pos (by decide))) 64 (r:=m%PW) hr64
       rw [Nat.div_add_mod'] at e2
       rw [e,e2,List.reverse_append,List.append_assoc]
       show _=ds (m / PW)++((Txt.zfill _ ((63+1:Nat):Int)::ps.reverse).map cl).flatten
       rw [uZ,vS,hz]
     · show ((m:Int) / ((PW:Nat):Int)).natAbs < ((m:Int)).natAbs
       rw [ed,vP,vP]
       exact Nat.div_lt_self (by omega) (by decide +kernel)
   · rw [decide_eq_false z]
     refine iteF ?_
     have hj:(Txt.join (Str.ofString "") ps.reverse).length=(ps.map (·.length)).sum:=by rw [←aG,lF,j3]
     have hs:(Str.ofString (toString (m:Int))).length=(ds m).length:=by rw [←aG,jL]
     have e0:(Str.ofString "").length=0:=by decide +kernel
     refine ⟨_,rfl,_,rfl,oO hm200,_,rfl,L,ps,rfl,hLs,by rw [e0];omega,_,_,rfl,rfl,by rw [hj,hs];omega,?_⟩
     refine k _ H' sH ?_
     rw [cj,lF,jL,e]
 · intro σ H' R R' hR h
   obtain ⟨v,e1,a,b,e2,e3,q,e4,h⟩:=h
   exact ⟨v,e1,a,b,e2,e3,q,e4,hR _ _ h⟩
def spFt (K:PySem.W.Frag):Sp:=fun vs H Q _=>∃(p:Addr) (x y:Int),vs= [.ref p]∧SqT K H p [.int x, .int y]∧0 < y∧x.natAbs < 10^200∧y.natAbs < 10^200∧∀(z:Str) (H':Hp),Same H H'→cl z=txt x y→Q (.str z) H'
theorem scFt:aN ["one","top","bottom","sign","share"] ["one"] (af sFt):=⟨rfl,rfl,rfl,by decide +kernel,rfl,by decide +kernel,by decide +kernel⟩
theorem uy {f fG:Addr} {fd fdG:FuncData} (F:Fun K "fraction_text" "fraction_text" sFt f fd) (B:Blt mg) (GG:FnOk P w K mg base CX0 1 fG fdG ["number"] spFg) (kG:PySem.W.keepIn K (.ref fG)=true) (bG:Binds K fdG ["number"] []) (mG:mg "figures_of"=some (.ref fG)):FnOk P w K mg base CX0 2 f fd ["one"] (spFt K):=by
 refine F.ok scFt (fun vs H Q E h=> ?_) (fun cdv A outer s H vs Q E hr h=> ?_)
 · obtain ⟨p,x,y,rfl,_⟩:=h
   rfl
 obtain ⟨p,x,y,rfl,hp,y0,hx,hy,k⟩:=h
 refine ⟨_,a9 (cQ (pv 0) (i5 rfl (br (aY (i:=1) scFt.nd rfl (Or.inl rfl)) (br (aY (i:=2) scFt.nd rfl (Or.inl rfl)) eL))))
  (a9 (ar (i:=3) scFt.nd rfl (Or.inl rfl) (bn (ah eD (pv 1) ac (ao _)) ad ad))
  (a9 (ar (i:=4) scFt.nd rfl (Or.inl rfl) (bn (ah b9 (pv 2) ac (ao _)) ad (ak ay ad (au GG hr rfl mG kG bG .nil aL (a7 (pv 2) a8)))))
  (ag (aA (ak ay (ak ay (pv 3) (au GG hr rfl mG kG bG .nil aL (a7 (aq jc rfl B.ab jd (a7 (pv 1) a8)) a8))) (pv 4)))))),?_⟩
 have hL:(20000:Nat)≤sizeLine:=by decide +kernel
 have l1:=dY 199 hx
 have l2:=dY 199 hy
 have ey:((y.natAbs:Nat):Int)=y:=by omega
 refine ⟨_,rfl,p,_,rfl,hp,rfl,_,_,rfl,_,_,rfl,rfl,?_⟩
 have last:∀(H1:Hp) (sT hT:Str),Same H H1→cl sT=sg x→cl hT=(if y=1 then [] else 47::ds y.natAbs)→
  (tRet (tOp (fun x y H Q=>∃i j,x= .str i∧y= .str j∧i.length+j.length≤sizeLine∧Q (.str (i++j)) H) (tOp (fun x y H Q=>∃i j,x= .str i∧y= .str j∧i.length+j.length≤sizeLine∧Q (.str (i++j)) H) (tVar 3) (dj spFg [] E0 (cn (tCB (fun xs H Q=>∃i,xs= [.int i]∧Q (.int (if i < 0 then -i else i)) H) (cn (tVar 1) tNil)) tNil))) (tVar 4)))
   {nx:=fun _ H'=>Q .non H',rt:=Q} [some (.ref p),some (.int x),some (.int y),some (.str sT),some (.str hT)] H1:=by
  intro H1 sT hT s1 es eh
  have a1:sT.length≤1:=by
   rw [←aG,es]
   unfold sg
   split<;>simp
  have a2:hT.length≤201:=by
   rw [←aG,eh]
   split<;>simp<;>omega
  refine ⟨_,rfl,_,rfl,x,rfl,x.natAbs,by rw [u5];rfl,hx,fun z H2 s2 ez=> ?_⟩
  have a3:z.length≤200:=by rw [←aG,ez];exact l1
  refine ⟨_,_,rfl,rfl,by omega,_,rfl,_,_,rfl,rfl,by rw [aU];omega,?_⟩
  refine k _ H2 (s1.trans s2) ?_
  rw [cj,cj,es,ez,eh]
  unfold txt low
  rw [List.append_assoc]
 have share:∀sT:Str,cl sT=sg x→(tSeq (tAsg (tIf (tB (tOp rEq (tVar 2) (tC (.int 1)))) (tC (.str (Str.ofString ""))) (tOp (fun x y H Q=>∃i j,x= .str i∧y= .str j∧i.length+j.length≤sizeLine∧Q (.str (i++j)) H) (tC (.str (Str.ofString "/"))) (dj spFg [] E0 (cn (tVar 2) tNil)))) (bB 4))
  (tRet (tOp (fun x y H Q=>∃i j,x= .str i∧y= .str j∧i.length+j.length≤sizeLine∧Q (.str (i++j)) H) (tOp (fun x y H Q=>∃i j,x= .str i∧y= .str j∧i.length+j.length≤sizeLine∧Q (.str (i++j)) H) (tVar 3) (dj spFg [] E0 (cn (tCB (fun xs H Q=>∃i,xs= [.int i]∧Q (.int (if i < 0 then -i else i)) H) (cn (tVar 1) tNil)) tNil))) (tVar 4))))
   {nx:=fun _ H'=>Q .non H',rt:=Q} [some (.ref p),some (.int x),some (.int y),some (.str sT),none] H:=by
  intro sT es
  refine ⟨_,rfl,rfl,_,rfl,?_⟩
  by_cases e:y=1
  · rw [decide_eq_true (show V.int y=V.int 1 by rw [e])]
    refine iteT ?_
    exact last H sT _ (Same.refl H) es (by rw [if_pos e];exact e_cl)
  · rw [decide_eq_false (show¬V.int y=V.int 1 from fun q=>e (V.int.inj q))]
    refine iteF ?_
    refine ⟨_,rfl,y.natAbs,by rw [ey];rfl,hy,fun z H2 s2 ez=> ?_⟩
    have a3:z.length≤200:=by rw [←aG,ez];exact l2
    have a4:(Str.ofString "/").length=1:=by decide +kernel
    refine ⟨_,_,rfl,rfl,by omega,?_⟩
    exact last H2 sT _ s2 es (by rw [if_neg e,cj,s_cl,ez];rfl)
 refine ⟨_,rfl,_,_,rfl,rfl,_,rfl,?_⟩
 by_cases e:x < 0
 · rw [decide_eq_true e]
   refine iteT ?_
   exact share _ (by unfold sg;rw [if_pos e];exact m_cl)
 · rw [decide_eq_false e]
   refine iteF ?_
   exact share _ (by unfold sg;rw [if_neg e];exact e_cl)
end
end K85
namespace L2
open PySem PySem.Spec PyProof.Rows
section
variable {X:Cx} {CX:CXT} {k i:Nat} {f:Addr} {fd:FuncData} {ps:List Str} {sp:Sp} {x y:Str} {p py pos epos:Pos} {e:Expr} {es:List Expr} {t:TA}
theorem qh (hxe:∀e s,X.xe e s→False) (F:FnOk X.prog X.w X.K X.mg X.base CX k f fd ps sp) (hr:Room k X.A) (hg:Gl X x) (hm:X.mg x=some (.ref f)) (hk:PySem.W.keepIn X.K (.ref f)=true) (hb:Binds X.K fd ps [])
 (ha:PA X (e::es) t) (hN:X.N.Nodup) (hi:X.N[i]?=some y) (hy:X.env.scope.names.lookup y=some .local) (hdb:(x==("__debug__":Str))=false:=by decide) (he:starEach (e::es) X.env=(false,eval e X.env)::starEach es X.env:=by rfl) (hpl:(backTo pos (starEach es X.env)).any (·.1)=false:=by rfl)
 (hs:swapsWith (.Call (.Name x p) (e::es) [] pos) (some (.Name y py)) epos.line X.env=pure false:=by rfl):
 PSX X CX [.Assign [.Name y py] (.Call (.Name x p) (e::es) [] pos) epos] (fun D E σ H=>t σ H fun vs H1=>sp vs H1 (fun v H2=>D.nx (σ.set i (some v)) H2) E):=by
 intro pins s σ H D E I h
 refine wpAny_execs_cons (wpAny_Assign_Name (wpAny_Call_Name_kw (cX I hg hm ?_ hdb)) hs)
 refine PySem.W.callWith_K (h₀:=X.base) I.ok.mod.kin hk (wpAny_mono (ha pos pins s σ H _ I h) (fun us s1 ⟨vs,H1,I1,r,q⟩=>⟨I1.kIn,?_⟩) fun _ _ z=>(hxe _ _ z).elim) he hpl
 have hl:us.length=ps.length:=by
  have e:=r.length
  rw [F.len _ _ _ _ q] at e
  exact e.symm
 refine wpAny_call (codeAny_mono (F.run X.A X.stack s1 H1 ⟨us,[]⟩ us vs _ E hr I1.env0 (by have:=hb s1 us I1.kIn (by rw [vB];exact hl);rw [vB] at this;exact this) r q) fun r s' hq=> ?_)
 cases r with
 |error e=>exact ⟨H1,s1,I1,hq⟩
 |ok fl=>
  cases fl with
  |ret u=>
   obtain ⟨v,H',I3,rv,q3⟩:=I1.after hq
   exact cp I3 hN hi (.inl hy) rv (fun s2 I2=>wpAny_execs_nil ⟨_,H',I2,q3⟩) (.inr hy)
  |next=>exact False.elim hq
  |brk=>exact False.elim hq
  |cont=>exact False.elim hq
end
section
variable {X:Cx} {pins:List (Addr×Obj)} {σ σ':St} {H:Hp} {s:Shared} {h9:Heap} {tk:Nat}
theorem Inv.goes (I9:Inv X pins σ H s) (sb9:Heap.SameBut X.env.locals s.heap h9) (hl:σ'.length=σ.length)
 (hloc:∃m,h9.Ns X.env.locals m∧∀(i:Nat) (x:Str) (v:V),X.N[i]?=some x→σ'[i]?=some (some v)→Vis X.env.scope x→∃u,RelV v u∧Look X.env h9 m x u):Inv X pins σ' H {s with heap:=h9,toks:=tk}:=by
 have kp:∀b o,b≠X.env.locals→s.heap.get? b=some o→h9.get? b=some o:=fun b o hb q=>(sb9.2 b hb).trans q
 have nL:∀b o,X.s₀.heap.get? b=some o→b≠X.env.locals:=fun b o e=>vf (v8 (Heap.lt_size e) I9.ok.above)
 refine ⟨I9.ok,I9.os,I9.bare,⟨fun b o e n hb hx=>kp b o (nL b o e) (I9.base.keep b o e n hb hx),fun b o e n hb hx=> ?_,I9.base.free,fun b o e hx=> ?_,I9.base.tups,I9.base.frzs,I9.base.tbls⟩,hloc,fun y c e=> ?_,I9.free,I9.freeC,fun p hp=> ?_,?_,by rw [hl];exact I9.len⟩
 · obtain ⟨sl,e1⟩:=I9.base.slot b o e n hb hx
   exact ⟨sl,kp b _ (nL b o e) e1⟩
 · obtain ⟨o',e1⟩:=I9.base.there b o e hx
   exact ⟨o',kp b o' (nL b o e) e1⟩
 · obtain ⟨w',z⟩:=I9.cell y c e
   exact ⟨w',z.sameBut sb9 (I9.cne y c e)⟩
 · obtain ⟨e,n1,n2,n3,n4⟩:=I9.pin p hp
   exact ⟨kp _ _ n2 e,n1,n2,n3,n4⟩
 · intro b ob' q
   have nb:b≠X.env.locals:=fun z=>by rw [z,I9.free] at q;cases q
   refine (I9.hok b ob' q).stay (fun c u hc r=>kp c u ?_ r) (fun _ r=>r) fun _ _ r=>r
   rcases hc with z|z
   · rw [z];exact nb
   · intro y
     rw [y,I9.free] at z
     cases z
end
section
variable {X:Cx} {body suite:List Stmt} {b0:Stmt} {tb:TSX} {ts:TS} {i:Nat} {n cx:Str} {np hpos pos:Pos} {W:Addr}
end
section
variable {X:Cx} {k:Nat} {f a:Addr} {fd:FuncData} {ps:List Str} {sp:Sp} {E:XK} {x:Str} {p pos:Pos} {e:Expr} {es:List Expr} {t:TA}
end
open PySem PySem.Spec PyProof.Rows
theorem dO {X:Cx} {b:List Stmt}:PSs X b (fun _ _ _=>False):=fun _ _ _ _ _ _ h=>h.elim
end L2
namespace K85
open PySem L2 Mth
section
variable {P:Program} {w:World} {K:PySem.W.Frag} {mg:Str→Option Value} {base:Heap}
def spFr:Sp:=fun vs H Q _=>∃(t b:Int),vs= [.int t, .int b]∧Big t∧Big b∧b≠0∧(∀p,H p=none→Q (.ref p) (upd H p (.tup [.int (fx t b), .int (fy t b)])))
theorem scF:aN ["top","bottom","divisor"] ["top","bottom"] (af sFr):=⟨rfl,rfl,rfl,by decide +kernel,rfl,by decide +kernel,by decide +kernel⟩
theorem uz {f fC:Addr} {fd fdC:FuncData} (F:Fun K "fraction" "fraction" sFr f fd) (FC:Fun K "common_divisor" "common_divisor" sCd fC fdC) (bC:Binds K fdC ["one","other"] []) (mC:mg "common_divisor"=some (.ref fC)) (B:Blt mg):FnOk P w K mg base CX0 3 f fd ["top","bottom"] spFr:=by
 have GC:FnOk P w K mg base CX0 1 fC fdC ["one","other"] spCd:=uC FC B
 refine F.ok scF (fun vs H Q E h=> ?_) (fun cdv A outer s H vs Q E hr h=> ?_)
 · obtain ⟨a,b,rfl,_⟩:=h
   rfl
 · obtain ⟨t,b,rfl,ht,hb,z,kQ⟩:=h
   have hr1:Room 1 _:=hr.mono (by decide)
   refine ⟨_,a9 (aS (ah b9 (pv 1) ac (ao _)) dO aw)
    (a9 (ar (i:=2) scF.nd rfl (Or.inl rfl) (au GC hr1 rfl mC FC.kp bC .nil aL (a7 (pv 0) (a7 (pv 1) a8))))
    (a9 (aS (ah eD (pv 1) ac (ao _)) (ag (ar (i:=2) scF.nd rfl (Or.inl rfl) (dm cv (pv 2)))) aw)
    (ag (aA (bu (a7 (ak iL (pv 0) (pv 2)) (a7 (ak iL (pv 1) (pv 2)) a8))))))),?_⟩
   refine ⟨_,rfl,rfl,_,rfl,?_⟩
   · have z':¬(V.int b=V.int 0):=fun q=>z (V.int.inj q)
     rw [decide_eq_false z']
     refine iteF ?_
     refine ⟨_,rfl,_,rfl,t,b,rfl,?_⟩
     have bg:=re (t:=t) hb z
     have n0:=pi (t:=t) z
     have last:∀d:Int,d=dv t b→∀H':Hp,H'=H→((tRet (tTup (cn (tOp (rI (fun _ j=>j≠0∧Big j) fun i j=> .int (i.fdiv j)) (tVar 0) (tVar 2)) (cn (tOp (rI (fun _ j=>j≠0∧Big j) fun i j=> .int (i.fdiv j)) (tVar 1) (tVar 2)) tNil))))
      {nx:=fun _ H'=>Q .non H',rt:=Q} [some (.int t),some (.int b),some (.int d)] H'):=by
      intro d hd H' hH
      subst hH
      have bd:Big d:=by
       rw [hd]
       unfold Big at*
       rw [pj]
       omega
      have nd:d≠0:=by rw [hd];exact n0
      refine ⟨_,rfl,_,rfl,t,d,rfl,rfl,⟨nd,bd⟩,_,rfl,_,rfl,b,d,rfl,rfl,⟨nd,bd⟩,by show 2≤sizeLine;decide,fun p hp=> ?_⟩
      have:=kQ p hp
      unfold fx fy at this
      rw [←hd] at this
      exact this
     refine ⟨_,rfl,b,0,rfl,rfl,_,rfl,?_⟩
     by_cases zb:b < 0
     · rw [decide_eq_true zb]
       refine iteT ?_
       refine ⟨_,rfl,_,rfl,?_⟩
       exact last _ (by unfold dv;rw [if_pos zb]) H rfl
     · rw [decide_eq_false zb]
       refine iteF ?_
       exact last _ (by unfold dv;rw [if_neg zb]) H rfl
end
end K85
namespace Dec
open PySem PySem.NumText L2 Mth
theorem pF {z:Str} {i j:Nat} (h1:i≤j) (h2:j≤(cl z).length):cl (Txt.slice z (some (i:Int)) (some (j:Int)))=((cl z).drop i).take (j - i):=by
 have:=PyProof.Rows.slice_closesL (x:=z) (i:=i) (j:=j) (by omega) (by omega) (by rw [←aG];omega)
 rw [eq_of_beq this]
 unfold cl
 simp
theorem sd {z:Str} {j:Nat} (h2:j≤(cl z).length):cl (Txt.slice z none (some (j:Int)))=(cl z).take j:=by
 have:=PyProof.Rows.slice_closes_toL (x:=z) (j:=j) (by omega) (by rw [←aG];omega)
 rw [eq_of_beq this]
 unfold cl
 simp
theorem qZ {z:Str} {i:Nat} (h2:i≤(cl z).length):cl (Txt.slice z (some (i:Int)) none)=(cl z).drop i:=by
 have:=PyProof.Rows.slice_closes_fromL (x:=z) (i:=i) (b:=((cl z).length:Int)) (by omega) (by rw [←aG];omega) (by rw [aG])
 rw [eq_of_beq this]
 unfold cl
 simp
 rw [List.take_of_length_le]
 rw [vV,vy]
 omega
theorem dZ {l:List Nat} (h:AllDigits l) (i:Nat):AllDigits (l.take i):=fun c m=>h c (List.mem_of_mem_take m)
theorem mH {l:List Nat} (h:AllDigits l) (i:Nat):AllDigits (l.drop i):=fun c m=>h c (List.mem_of_mem_drop m)
theorem mV {l:List Nat} {a k:Nat} (h:a+k≤l.length):digitsVal (l.take (a+k))=digitsVal (l.take a)*10^k+digitsVal ((l.drop a).take k):=by
 rw [List.take_add,jS,vx,vV]
 rw [show min k (l.length - a)=k by omega]
theorem rJ {x:Str} (h:AllDigits (cl x)) (h1:cl x≠ []) (h2:x.length≤640):PySem.intText? x=some ((digitsVal (cl x):Nat):Int):=intText_digits h h1 (vh h2 (by decide))
end Dec
namespace K85
open PySem PySem.NumText L2 Mth Dec
section
variable {P:Program} {w:World} {K:PySem.W.Frag} {mg:Str→Option Value} {base:Heap}
def spAf:Sp:=fun vs H Q _=>∃(z:Str),vs= [.str z]∧∀b:Bool,(b=true↔(cl z≠ []∧AllDigits (cl z)))→Q (.bl b) H
theorem scAf:aN ["text"] ["text"] (af sAf):=⟨rfl,rfl,rfl,by decide +kernel,rfl,by decide +kernel,by decide +kernel⟩
theorem uD {f:Addr} {fd:FuncData} (F:Fun K "are_figures" "are_figures" sAf f fd):FnOk P w K mg base CX0 1 f fd ["text"] spAf:=by
 refine F.ok scAf (fun vs H Q E h=> ?_) (fun cdv A outer s H vs Q E hr h=> ?_)
 · obtain ⟨z,rfl,_⟩:=h
   rfl
 obtain ⟨z,rfl,k⟩:=h
 refine ⟨_,ag (aA (i9 (fc PySem.F.plainAttrs_str PySem.F.slot_str_isascii PySem.F.type_str_isascii fg (pv 0)) (i7 (fc PySem.F.plainAttrs_str PySem.F.slot_str_isdigit PySem.F.type_str_isdigit jw (pv 0))))),?_⟩
 refine ⟨_,rfl,rfl,z,rfl,rfl,_,rfl,?_⟩
 have hf:=qV z
 by_cases e:Txt.isascii z=true
 · rw [e]
   refine iteT ?_
   refine ⟨_,rfl,rfl,z,rfl,rfl,?_⟩
   refine k _ ?_
   rw [←hf]
   simp [e]
 · have e':Txt.isascii z=false:=by simpa using e
   rw [e']
   refine iteF ?_
   refine k _ ?_
   rw [←hf]
   simp [e]
def spNo:Sp:=fun vs H Q _=>∃(z:Str),vs= [.str z]∧AllDigits (cl z)∧z.length≤200∧Q (.int ((digitsVal (cl z):Nat):Int)) H
theorem scNo:aN ["figures","ahead","number","at"] ["figures"] (af sNo):=⟨rfl,rfl,rfl,by decide +kernel,rfl,by decide +kernel,by decide +kernel⟩
theorem ux {f:Addr} {fd:FuncData} {tp tw:Tok} (F:Fun K "number_of" "number_of" sNo f fd) (B:Blt mg) (mP:mg "PIECE"=some (.int 64 tp)) (mW:mg "PIECE_WORTH"=some (.int ((PW:Nat):Int) tw)):FnOk P w K mg base CX0 1 f fd ["figures"] spNo:=by
 refine F.ok scNo (fun vs H Q E h=> ?_) (fun cdv A outer s H vs Q E hr h=> ?_)
 · obtain ⟨z,rfl,_⟩:=h
   rfl
 obtain ⟨z,rfl,hd,hz,k⟩:=h
 refine ⟨_,a9 (ar (i:=1) scNo.nd rfl (Or.inl rfl) (ak bZ (aq bz rfl B.le PySem.boot_len (a7 (pv 0) a8)) (aZ (v:= .int 64) rfl mP ⟨_,rfl⟩)))
  (a9 (ar (i:=2) scNo.nd rfl (Or.inl rfl) (aJ bp rfl B.it PyProof.Rows.boot_int (a7 (ak ay ad (bc ci (pv 0) bw (be (pv 1)))) a8)))
  (a9 (d8 PassesOwn.never rfl (lY rfl B.ra (a7 (pv 1) (a7 (aq bz rfl B.le PySem.boot_len (a7 (pv 0) a8)) (a7 (aZ (v:= .int 64) rfl mP ⟨_,rfl⟩) a8)))) (aY (i:=3) scNo.nd rfl (Or.inl rfl))
   (ag (ar (i:=2) scNo.nd rfl (Or.inl rfl) (ak aX (ak ia (pv 2) (aZ (v:= .int ((PW:Nat):Int)) rfl mW ⟨_,rfl⟩)) (aJ bp rfl B.it PyProof.Rows.boot_int (a7 (bc ci (pv 0) (be (pv 3)) (be (ak aX (pv 3) (aZ (v:= .int 64) rfl mP ⟨_,rfl⟩)))) a8))))))
  (ag (aA (pv 2))))),?_⟩
 have hL:(20000:Nat)≤sizeLine:=by decide +kernel
 have hl:=aG z
 refine ⟨_,rfl,z,rfl,by omega,_,64,rfl,rfl,by show (0:Int) < 64;decide,?_⟩
 obtain ⟨a,ea⟩:∃a:Nat,a=z.length%64:=⟨_,rfl⟩
 obtain ⟨q,eq⟩:∃q:Nat,q=z.length / 64:=⟨_,rfl⟩
 have eN:a+q*64=z.length:=by omega
 have e1:((z.length:Nat):Int)%64=(a:Int):=by omega
 have hca:a≤(cl z).length:=by omega
 have ct:=sd hca
 have z0:cl (Str.ofString "0")= [48]:=by decide +kernel
 have cz:cl (Str.ofString "0"++Txt.slice z none (some (a:Int)))=48::(cl z).take a:=by rw [cj,z0,ct];rfl
 have dz:AllDigits (48::(cl z).take a):=fun c m=>by
  rcases vd.mp m with rfl|m
  · omega
  · exact dZ hd a c m
 have lz:(Str.ofString "0"++Txt.slice z none (some (a:Int))).length≤640:=by
  rw [←aG,cz,uU,vx]
  omega
 have lt:(Txt.slice z none (some (a:Int))).length≤200:=by
  rw [←aG,ct,vx]
  omega
 have r0:=rJ (x:=Str.ofString "0"++Txt.slice z none (some (a:Int))) (by rw [cz];exact dz) (by rw [cz];simp) lz
 rw [cz,digitsVal_zero] at r0
 show tSeq _ _ _ [some (.str z),some (.int (((z.length:Nat):Int)%64)),none,none] H
 rw [e1]
 refine ⟨_,rfl,_,rfl,_,rfl,z,rfl,by omega,_,_,rfl,rfl,by rw [show (Str.ofString "0").length=1 by decide +kernel];omega,_,_,rfl,r0,lz,?_⟩
 have hs:Builtin.Range.rangeSize (a:Int) ((z.length:Nat):Int) 64=(q:Int):=by
  unfold Builtin.Range.rangeSize
  rw [if_pos (by decide)]
  split<;>omega
 refine ⟨_,rfl,_,rfl,z,rfl,by omega,_,_,64,q,rfl,by decide,?_,?_,hs,?_⟩
 · unfold Builtin.Range.small
   rw [hs]
   have fit:∀x:Int,-1000≤x→x≤1000→Builtin.Range.rangeFitsLong x=true:=fun x h1 h2=>by
    unfold Builtin.Range.rangeFitsLong
    rw [decide_eq_true (by omega),decide_eq_true (by omega)]
    rfl
   rw [fit (a:Int) (by omega) (by omega),fit ((z.length:Nat):Int) (by omega) (by omega),fit 64 (by decide) (by decide),fit (q:Int) (by omega) (by omega)]
   rw [if_pos (by decide),fit (((z.length:Nat):Int)+(64 - 1)) (by omega) (by omega),Bool.or_true]
   rfl
 · exact jM (by show (64:Int).natAbs < 2^8000;decide +kernel)
 · refine jF (lo:=(a:Int)) (c:=64) (n:=q) (fun i σ H'=>H'=H∧∃v,σ= [some (.str z),some (.int (a:Int)),some (.int ((digitsVal ((cl z).take (a+i*64)):Nat):Int)),v]) ⟨rfl,none,by rw [Nat.zero_mul,Nat.add_zero];rfl⟩ ?_ ?_
   · rintro i σ H' hi ⟨rfl,v,rfl⟩
     have ei:(a:Int)+(i:Nat)*64=((a+i*64:Nat):Int):=by omega
     have ej:((a+i*64:Nat):Int)+64=((a+i*64+64:Nat):Int):=by omega
     have hb:a+i*64+64≤(cl z).length:=by omega
     have cs:=pF (z:=z) (i:=a+i*64) (j:=a+i*64+64) (by omega) hb
     rw [show a+i*64+64 - (a+i*64)=64 by omega] at cs
     have lc:(Txt.slice z (some ((a+i*64:Nat):Int)) (some ((a+i*64+64:Nat):Int))).length=64:=by
      rw [←aG,cs,vx,vV]
      omega
     have rd:=rJ (x:=Txt.slice z (some ((a+i*64:Nat):Int)) (some ((a+i*64+64:Nat):Int))) (by rw [cs];exact dZ (mH hd _) _) (by intro z0;rw [←aG,z0] at lc;simp at lc) (by omega)
     rw [cs] at rd
     have vt:=mV (l:=cl z) (a:=a+i*64) (k:=64) hb
     show tAsg _ _ _ [some (.str z),some (.int (a:Int)),some (.int ((digitsVal ((cl z).take (a+i*64)):Nat):Int)),some (.int ((a:Int)+(i:Nat)*64))] H'
     rw [ei]
     refine ⟨_,rfl,_,_,rfl,rfl,⟨gY (dZ hd _) (by rw [vx];omega),by show (((PW:Nat):Int)).natAbs < 2^8000;decide +kernel⟩,_,rfl,_,rfl,_,rfl,_,rfl,_,_,rfl,rfl,_,rfl,z,rfl,by omega,_,_,rfl,by rw [ej];exact rd,by rw [ej,lc];decide,_,_,rfl,rfl,rfl,some (.int ((a+i*64:Nat):Int)),?_⟩
     rw [Nat.add_mul,Nat.one_mul,←Nat.add_assoc,vt]
     rw [Int.natCast_add,Int.natCast_mul]
     rfl
   · rintro σ H' ⟨rfl,v,rfl⟩
     refine ⟨_,rfl,?_⟩
     rw [eN,←hl,vU]
     exact k
end
end K85
namespace Dec
open PySem PySem.NumText L2 Mth
theorem o_cl:cl (Str.ofString "1")= [49]:=by decide +kernel
theorem emp:Str.empty=Str.ofString "":=by decide +kernel
theorem jU (z:Str) (i j:Nat):(Builtin.Str.strSub z i j).length≤z.length:=by
 rw [←aG,jK,vV,vx,aG]
 omega
theorem oq (z y:Str):(aT z y).1.length≤z.length∧(aT z y).2.2.length≤z.length:=by
 unfold aT
 split
 · exact ⟨jU _ _ _,jU _ _ _⟩
 · exact ⟨uW _,vF _⟩
theorem lR (l:List Nat):(nu l).length≤l.length:=by
 cases l with
 |nil=>exact uW _
 |cons c r=>
  show (if c=45 then r else c::r).length≤_
  split<;>simp
theorem sE (t:Str):(Txt.removeprefix t mn).length≤t.length:=by
 rw [←aG,se,←aG t]
 exact lR _
theorem ug:¬sl=Str.ofString "":=by decide +kernel
theorem on {t:Str} {x y:Int} (e:cl t=txt x y):cl (aT (Txt.removeprefix t mn) sl).1=ds x.natAbs∧(if (aT (Txt.removeprefix t mn) sl).2.1=Str.ofString "" then cl (Str.ofString "1")=side y else cl (aT (Txt.removeprefix t mn) sl).2.2=side y):=by
 have hu:cl (Txt.removeprefix t mn)=low x y:=by rw [se,e,lQ]
 unfold low at hu
 unfold side
 by_cases q:y=1
 · rw [if_pos q,vB] at hu
   have hp:=lZ (z:=Txt.removeprefix t mn) (by rw [hu];exact gH (by decide))
   rw [hp,if_pos q]
   refine ⟨hu,?_⟩
   rw [if_pos emp]
   exact o_cl
 · rw [if_neg q] at hu
   obtain ⟨h1,h2,h3⟩:=oo hu (gH (by decide)) (gH (by decide))
   rw [h2,if_neg ug,if_neg q]
   exact ⟨h1,h3⟩
theorem mr {t:Str} {x y:Int} (e:cl t=txt x y):Txt.startswith t mn=decide (x < 0):=by
 rw [gc,e]
 unfold txt sg
 by_cases q:x < 0
 · rw [if_pos q,decide_eq_true q]
   simp
 · rw [if_neg q,decide_eq_false q]
   obtain ⟨c,r,e2,h⟩:=iS x y
   rw [List.nil_append,e2]
   simp [h]
theorem mZ {l:List Nat} (h:AllDigits l) (hl:l.length≤200):digitsVal l < 10^200:=v8 (gX h) (Nat.pow_le_pow_right (by decide) hl)
theorem uN {t b:Int} (h:0 < b):(fx t b).natAbs≤t.natAbs∧(fy t b).natAbs≤b.natAbs:=by
 rw [(p5 (t:=t) h).1,(p5 (t:=t) h).2]
 exact ⟨lu _ _,lu _ _⟩
end Dec
namespace K85
open PySem PySem.NumText L2 Mth Dec
theorem tN {c:Bool} {D:Ends} {σ:L2.St} {H:Hp} {i:Nat} {v:V} (h:D.nx (if c=true then σ.set i (some v) else σ) H):if c=true then tAsg (tC v) (bB i) D σ H else ng D σ H:=by
 cases c
 · rw [if_neg v5] at h ⊢
   exact h
 · rw [if_pos rfl] at h ⊢
   exact h
section
variable {P:Program} {w:World} {K:PySem.W.Frag} {mg:Str→Option Value} {base:Heap}
def spFi:Sp:=fun vs H Q _=>∃(t:Str),vs= [.str t]∧t.length≤200∧
 ((∃x y,cU x y∧cl t=txt x y∧∀r H',H r=none→Same H H'→H' r=some (.tup [.int x, .int y])→Q (.ref r) H')∨((∀x y,cU x y→cl t≠txt x y)∧∀H',Same H H'→Q .non H'))
theorem nQ {vs:List V} {H:Hp} {Q:VK} {E:XK} (h:spFi vs H Q E):vs.length=1:=by
 obtain ⟨t,rfl,_⟩:=h
 rfl
theorem scFi:aN ["text","top","slash","bottom","sign","found"] ["text"] (af sFi):=⟨rfl,rfl,rfl,by decide +kernel,rfl,by decide +kernel,by decide +kernel⟩
theorem uA {f fA fN fF fT:Addr} {fd fdA fdN fdF fdT:FuncData} (F:Fun K "fraction_in" "fraction_in" sFi f fd) (B:Blt mg)
 (GA:FnOk P w K mg base CX0 1 fA fdA ["text"] spAf) (kA:PySem.W.keepIn K (.ref fA)=true) (bA:Binds K fdA ["text"] []) (mA:mg "are_figures"=some (.ref fA))
 (GN:FnOk P w K mg base CX0 1 fN fdN ["figures"] spNo) (kN:PySem.W.keepIn K (.ref fN)=true) (bN:Binds K fdN ["figures"] []) (mN:mg "number_of"=some (.ref fN))
 (GF:FnOk P w K mg base CX0 3 fF fdF ["top","bottom"] spFr) (kF:PySem.W.keepIn K (.ref fF)=true) (bF:Binds K fdF ["top","bottom"] []) (mF:mg "fraction"=some (.ref fF))
 (GT:FnOk P w K mg base CX0 2 fT fdT ["one"] (spFt K)) (kT:PySem.W.keepIn K (.ref fT)=true) (bT:Binds K fdT ["one"] []) (mT:mg "fraction_text"=some (.ref fT)):FnOk P w K mg base CX0 4 f fd ["text"] spFi:=by
 refine F.ok scFi (fun vs H Q E h=>nQ h) (fun cdv A outer s H vs Q E hr h=> ?_)
 obtain ⟨t,rfl,ht,k⟩:=h
 have hr1:Room 1 _:=hr.mono (by decide)
 have hr2:Room 2 _:=hr.mono (by decide)
 refine ⟨_,a9 (cQ (bO PySem.F.plainAttrs_str PySem.F.slot_str_partition PySem.F.type_str_partition ie (bO PySem.F.plainAttrs_str PySem.F.slot_str_removeprefix PySem.F.type_str_removeprefix iN (pv 0) (a7 ad a8)) (a7 ad a8))
  (i5 rfl (br (aY (i:=1) scFi.nd rfl (Or.inl rfl)) (br (aY (i:=2) scFi.nd rfl (Or.inl rfl)) (br (aY (i:=3) scFi.nd rfl (Or.inl rfl)) eL)))))
  (a9 (aS (ah b9 (pv 2) ad (ao _)) (ag (ar (i:=3) scFi.nd rfl (Or.inl rfl) ad)) aw)
  (a9 (aS (PW.pt (bf (cw (bq (au GA hr1 rfl mA kA bA .nil aL (a7 (pv 1) a8)))) (bf (cw (bq (au GA hr1 rfl mA kA bA .nil aL (a7 (pv 3) a8)))) (bi (ah b9 (au GN hr1 rfl mN kN bN .nil aL (a7 (pv 3) a8)) ac (ao _))))))
   (ag (aA bb)) aw)
  (a9 (ar (i:=4) scFi.nd rfl (Or.inl rfl) (bn (bq (bO PySem.F.plainAttrs_str PySem.F.slot_str_startswith PySem.F.type_str_startswith md (pv 0) (a7 ad a8))) (dm cv ac) ac))
  (a9 (ar (i:=5) scFi.nd rfl (Or.inl rfl) (au GF hr rfl mF kF bF .nil aL (a7 (ak ia (pv 4) (au GN hr1 rfl mN kN bN .nil aL (a7 (pv 1) a8))) (a7 (au GN hr1 rfl mN kN bN .nil aL (a7 (pv 3) a8)) a8))))
  (ag (aA (bn (ah b9 (au GT hr2 rfl mT kT bT .nil aL (a7 (pv 5) a8)) (pv 0) (ao _)) (pv 5) bb))))))),?_⟩
 have hL:(20000:Nat)≤sizeLine:=by decide +kernel
 have hrm:=sE t
 refine ⟨_,rfl,rfl,t,mn,rfl,rfl,by omega,rfl,_,sl,rfl,rfl,by decide +kernel,by omega,fun p np=> ?_⟩
 have s1:Same H (upd H p (.tup [.str (aT (Txt.removeprefix t mn) sl).1, .str (aT (Txt.removeprefix t mn) sl).2.1, .str (aT (Txt.removeprefix t mn) sl).2.2])):=ae np
 refine ⟨p,_,rfl,SqT.of aa,rfl,_,_,rfl,_,_,rfl,_,_,rfl,rfl,?_⟩
 generalize upd H p (.tup [.str (aT (Txt.removeprefix t mn) sl).1, .str (aT (Txt.removeprefix t mn) sl).2.1, .str (aT (Txt.removeprefix t mn) sl).2.2])=H1 at s1
 have pl:=oq (Txt.removeprefix t mn) sl
 have hc:∀x y,cl t=txt x y→cl (aT (Txt.removeprefix t mn) sl).1=ds x.natAbs∧(if (aT (Txt.removeprefix t mn) sl).2.1=Str.ofString "" then cl (Str.ofString "1")=side y else cl (aT (Txt.removeprefix t mn) sl).2.2=side y):=fun x y e=>on e
 generalize (aT (Txt.removeprefix t mn) sl).1=a at pl hc
 generalize (aT (Txt.removeprefix t mn) sl).2.1=sh at hc
 generalize (aT (Txt.removeprefix t mn) sl).2.2=b0 at pl hc
 refine ⟨_,rfl,rfl,_,rfl,?_⟩
 refine tN ?_
 obtain ⟨b,eb,hb⟩:∃b:Str,(if decide (V.str sh=V.str (Str.ofString ""))=true then [some (V.str t),some (.str a),some (.str sh),some (.str b0),none,none].set 3 (some (.str (Str.ofString "1"))) else [some (V.str t),some (.str a),some (.str sh),some (.str b0),none,none])= [some (V.str t),some (.str a),some (.str sh),some (.str b),none,none]∧b.length≤200∧∀x y,cl t=txt x y→cl b=side y:=by
  by_cases e:sh=Str.ofString ""
  · refine ⟨Str.ofString "1",?_,by rw [show (Str.ofString "1").length=1 by decide +kernel];decide,fun x y h=> ?_⟩
    · rw [if_pos (decide_eq_true (by rw [e]))]
      rfl
    · have:=(hc x y h).2
      rw [if_pos e] at this
      exact this
  · refine ⟨b0,?_,by omega,fun x y h=> ?_⟩
    · rw [if_neg (by simp [e])]
    · have:=(hc x y h).2
      rw [if_neg e] at this
      exact this
 show (_:L2.St→Hp→Prop) (if decide (V.str sh=V.str (Str.ofString ""))=true then [some (V.str t),some (.str a),some (.str sh),some (.str b0),none,none].set 3 (some (.str (Str.ofString "1"))) else [some (V.str t),some (.str a),some (.str sh),some (.str b0),none,none]) H1
 rw [eb]
 have no:(∀x y,cU x y→cl t=txt x y→False)→∀H',Same H H'→Q .non H':=by
  rcases k with ⟨x,y,h1,h2,_⟩|⟨_,k⟩
  · exact fun h=>(h x y h1 h2).elim
  · exact fun _=>k
 refine ⟨_,rfl,a,rfl,fun b1 h1=>⟨b1,rfl,?_⟩⟩
 cases b1 with
 |false=>
  refine iteT ?_
  refine iteT ?_
  refine no (fun x y _ e=> ?_) H1 s1
  have:=h1.mpr (by rw [(hc x y e).1];exact ⟨lj _,dc _⟩)
  cases this
 |true=>
  refine iteF ?_
  refine ⟨_,rfl,b,rfl,fun b2 h2=>⟨b2,rfl,?_⟩⟩
  cases b2 with
  |false=>
   refine iteT ?_
   refine iteT ?_
   refine no (fun x y _ e=> ?_) H1 s1
   have:=h2.mpr (by rw [hb.2 x y e];exact ⟨(iF y).2,(iF y).1⟩)
   cases this
  |true=>
   have da:=(h1.mp rfl).2
   have db:=(h2.mp rfl).2
   refine iteF ?_
   refine ⟨_,rfl,b,rfl,db,hb.1,rfl,_,rfl,?_⟩
   by_cases z:digitsVal (cl b)=0
   · rw [decide_eq_true (show V.int ((digitsVal (cl b):Nat):Int)=V.int 0 by rw [z];rfl)]
     refine iteT ?_
     refine no (fun x y s e=> ?_) H1 s1
     rw [hb.2 x y e,iE s.1] at z
     have:=s.1
     omega
   · rw [decide_eq_false (show¬V.int ((digitsVal (cl b):Nat):Int)=V.int 0 from fun q=>z (by have:=V.int.inj q;omega))]
     refine iteF ?_
     have va:=mZ da (by rw [aG];omega)
     have vb:=mZ db (by rw [aG];exact hb.1)
     have fin:∀sgn:Int,sgn=(if Txt.startswith t mn=true then -1 else 1)→
      (tSeq (tAsg (dj spFr [] E0 (cn (tOp (rI (fun i j=>Big i∧Big j) fun i j=> .int (i*j)) (tVar 4) (dj spNo [] E0 (cn (tVar 1) tNil))) (cn (dj spNo [] E0 (cn (tVar 3) tNil)) tNil))) (bB 5)) (tRet (tIf (tB (tOp rEq (dj (spFt K) [] E0 (cn (tVar 5) tNil)) (tVar 0))) (tVar 5) (tC .non))))
      {nx:=fun _ H'=>Q .non H',rt:=Q} [some (V.str t),some (.str a),some (.str sh),some (.str b),some (.int sgn),none] H1:=by
      intro sgn hs
      have bs:Big sgn:=by
       rw [hs]
       split
       · show (-1:Int).natAbs < 2^8000;decide +kernel
       · show (1:Int).natAbs < 2^8000;decide +kernel
      have ab:(sgn*((digitsVal (cl a):Nat):Int)).natAbs=digitsVal (cl a):=by
       rw [hs]
       split<;>omega
      have bt:Big (sgn*((digitsVal (cl a):Nat):Int)):=by
       unfold Big
       rw [ab]
       exact Nat.lt_trans va (by decide +kernel)
      have b0:(0:Int) < ((digitsVal (cl b):Nat):Int):=by omega
      refine ⟨_,rfl,_,rfl,a,rfl,da,by omega,_,_,rfl,rfl,⟨bs,gY da (by rw [aG];omega)⟩,_,rfl,b,rfl,db,hb.1,_,_,rfl,bt,gY db (by rw [aG];exact hb.1),by omega,fun r nr=> ?_⟩
      have s2:=s1.trans (ae (o:= .tup [.int (fx (sgn*((digitsVal (cl a):Nat):Int)) ((digitsVal (cl b):Nat):Int)), .int (fy (sgn*((digitsVal (cl a):Nat):Int)) ((digitsVal (cl b):Nat):Int))]) nr)
      have hsh:=jE (t:=sgn*((digitsVal (cl a):Nat):Int)) (b:=((digitsVal (cl b):Nat):Int)) (by omega)
      have hle:=uN (t:=sgn*((digitsVal (cl a):Nat):Int)) b0
      rw [ab] at hle
      refine ⟨_,rfl,r,_,_,rfl,SqT.of aa,hsh.1,by omega,by omega,fun zz H3 s3 ez=> ?_⟩
      refine ⟨_,rfl,rfl,_,rfl,?_⟩
      have up:=s3 _ _ aa
      rcases k with ⟨x,y,k1,k2,k3⟩|⟨k1,k3⟩
      · have e1:sgn*((digitsVal (cl a):Nat):Int)=x:=by
         rw [hs,mr k2,(hc x y k2).1,cB]
         have:=pZ x
         by_cases q:x < 0
         · rw [if_pos q] at this
           rw [decide_eq_true q,if_pos rfl]
           exact this
         · rw [if_neg q] at this
           rw [decide_eq_false q,if_neg v5]
           exact this
        have e2:((digitsVal (cl b):Nat):Int)=y:=by
         rw [hb.2 x y k2,iE k1.1]
         have:=k1.1
         omega
        rw [e1,e2,(iZ k1).1,(iZ k1).2] at ez up
        have et:zz=t:=fO (ez.trans k2.symm)
        rw [decide_eq_true (show V.str zz=V.str t by rw [et])]
        refine iteT ?_
        exact ⟨_,rfl,k3 r H3 (s1.free nr) (s2.trans s3) up⟩
      · have et:¬V.str zz=V.str t:=fun q=>k1 _ _ hsh (by rw [←ez,V.str.inj q])
        rw [decide_eq_false et]
        refine iteF ?_
        exact k3 H3 (s2.trans s3)
     refine ⟨_,rfl,rfl,t,mn,rfl,rfl,trivial,_,rfl,?_⟩
     by_cases q:Txt.startswith t mn=true
     · rw [q]
       refine iteT ?_
       exact ⟨_,rfl,fin (-1) (by rw [if_pos q])⟩
     · have q':Txt.startswith t mn=false:=by simpa using q
       rw [q']
       refine iteF ?_
       exact fin 1 (by rw [if_neg q])
end
end K85
namespace Trm
open PySem
inductive Tm where
 |nm (x:Str)
 |ap (f:Str) (ts:List Tm)
end Trm
namespace L2
open PySem
theorem jf:∀c:Nat,c < 128→(Unicode.isAlpha c=true∧Unicode.isLower c=true∧Unicode.isUpper c=false∧Unicode.isTitle c=false∧(97≤c∧c≤122))∨(Unicode.isAlpha c=true∧Unicode.isLower c=false∧Unicode.isUpper c=true∧¬(97≤c∧c≤122))∨(Unicode.isAlpha c=false∧¬(97≤c∧c≤122)):=by
 decide +kernel
theorem rk {p:Nat→Bool} {a:Array Nat}:a.all p=a.toList.all p:=by simp
theorem rh {p:Nat→Bool} {a:Array Nat}:a.any p=a.toList.any p:=by simp
theorem oB (x:Str):(Txt.isascii x&& (Txt.isalpha x&&Txt.islower x))=true↔0 < x.length∧∀c∈x.cps.toList,97≤c∧c≤122:=by
 unfold Txt.isascii Txt.isalpha Txt.islower
 simp only [v4,rk,rh,vj,List.any_eq_true,decide_eq_true_eq,Bool.not_eq_true',Bool.or_eq_true]
 constructor
 · rintro ⟨h1,⟨h2,h3⟩,h4,h5⟩
   refine ⟨h2,fun c m=> ?_⟩
   rcases jf c (h1 c m) with ⟨_,_,_,_,k⟩|⟨_,_,k,_⟩|⟨k,_⟩
   · exact k
   · exfalso
     have:(x.cps.toList.any fun c=>Unicode.isUpper c ||Unicode.isTitle c)=true:=List.any_eq_true.mpr ⟨c,m,by rw [k];rfl⟩
     rw [h5] at this
     cases this
   · rw [h3 c m] at k
     cases k
 · rintro ⟨h1,h2⟩
   have asc:∀c∈x.cps.toList,c < 128:=fun c m=>by have:=h2 c m;omega
   have kd:∀c∈x.cps.toList,Unicode.isAlpha c=true∧Unicode.isLower c=true∧Unicode.isUpper c=false∧Unicode.isTitle c=false:=fun c m=>by
    rcases jf c (asc c m) with ⟨a,b,d,e,_⟩|⟨_,_,_,k⟩|⟨_,k⟩
    · exact ⟨a,b,d,e⟩
    · exact absurd (h2 c m) k
    · exact absurd (h2 c m) k
   refine ⟨asc,⟨h1,fun c m=>(kd c m).1⟩,?_,?_⟩
   · cases e:x.cps.toList with
     |nil=>
      have:x.length=0:=by
       show x.cps.size=0
       rw [←vy,e]
       rfl
      omega
     |cons c l=>exact ⟨c,v7,(kd c (by rw [e];exact v7)).2.1⟩
   · cases e:(x.cps.toList.any fun c=>Unicode.isUpper c ||Unicode.isTitle c) with
     |false=>rfl
     |true=>
      obtain ⟨c,m,k⟩:=List.any_eq_true.mp e
      obtain ⟨_,_,k1,k2⟩:=kd c m
      rw [k1,k2] at k
      cases k
section
variable {X:Cx}
def rBs (g:Str→Bool):V→List V→Hp→VK→Prop:=fun x vs H Q=>∃z,x= .str z∧vs= []∧Q (.bl (g z)) H
theorem jx:MtM X "str.isalpha" (rBs Txt.isalpha):=by
 intro pins s σ H x vs v us Q I rx rv h
 obtain ⟨z,rfl,rfl,q⟩:=h
 obtain ⟨t,rfl⟩:=rx
 cases rv.zero
 exact SC.isalpha ⟨.bl _,H,I,rfl,q⟩
theorem jv:MtM X "str.islower" (rBs Txt.islower):=by
 intro pins s σ H x vs v us Q I rx rv h
 obtain ⟨z,rfl,rfl,q⟩:=h
 obtain ⟨t,rfl⟩:=rx
 cases rv.zero
 exact SC.islower ⟨.bl _,H,I,rfl,q⟩
end
end L2
namespace Trm
open PySem
def cl (x:Str):List Nat:=x.cps.toList
mutual
noncomputable def Tm.code:Tm→List Nat
 | .nm x=>cl x
 | .ap f ts=>40::(cl f++(Tms.code ts++ [41]))
noncomputable def Tms.code:List Tm→List Nat
 | []=> []
 |t::ts=>32::(Tm.code t++Tms.code ts)
end
end Trm
namespace L2
open PySem PySem.Spec PyProof.Rows
section
variable {X:Cx}
end
open PySem PySem.Spec PyProof.Rows
section
variable {prog:Program} {w:World} {A:Around} {R:Result→Shared→Prop} {it S:Addr} {fp wr:List Addr} {n:Nat} {P:Nat→Value→Prop} {St:Nat→Heap→Prop} {kw:List (Str×Value)}
end
section
variable {X:Cx}
end
end L2
namespace Trm
open PySem PySem.Spec PyProof.Rows L2
mutual
def TmAt (H:Hp):V→Tm→Prop
 |v, .nm x=>∃r,v= .ref r∧H r=some (.tup [.str "name", .str x])
 |v, .ap f ts=>∃r q vs,v= .ref r∧H r=some (.tup [.str "call", .str f, .ref q])∧H q=some (.tup vs)∧TmsAt H vs ts
def TmsAt (H:Hp):List V→List Tm→Prop
 |vs,[]=>vs= []
 |vs,t::ts=>∃v r,vs=v::r∧TmAt H v t∧TmsAt H r ts
end
theorem TmAt.ref {H:Hp} {v:V} {t:Tm} (h:TmAt H v t):∃r,v= .ref r:=by
 cases t with
 |nm x=>unfold TmAt at h;obtain ⟨r,e,_⟩:=h;exact ⟨r,e⟩
 |ap f ts=>unfold TmAt at h;obtain ⟨r,_,_,e,_⟩:=h;exact ⟨r,e⟩
section
variable {X:Cx} {pins:List (Addr×Obj)} {σ:L2.St} {H:Hp} {s:Shared} {A:Around}
def e2 (x y:Str):Nat→Bool
 |0=>true
 |_=>x==y
def e3 (x y:Str) (k:Bool):Nat→Bool
 |0=>true
 |1=>x==y
 |_=>k
def e0 (k:Bool):Nat→Bool
 |0=>false
 |_=>k
end
end Trm
namespace K85
open PySem L2 Mth Dec Tre Wd
theorem tH (K:PySem.W.Frag):PySem.W.kitOne K (.type "str") (.type "str")=some true:=by kernel_rfl
noncomputable def nmB (x:Str):Bool:=decide (0 < x.length)&& (decide (x.length≤8)&& (cl x).all fun c=>decide (97≤c)&&decide (c≤122))
theorem t9 (x:Str):nmB x=(!decide (8 < (x.length:Int))&& (Txt.isascii x&& (Txt.isalpha x&&Txt.islower x))):=by
 have h:=oB x
 cases e:(Txt.isascii x&& (Txt.isalpha x&&Txt.islower x)) with
 |true=>
  obtain ⟨h1,h2⟩:=h.mp e
  unfold nmB
  rw [decide_eq_true h1,Bool.true_and,Bool.and_true]
  have:(cl x).all (fun c=>decide (97≤c)&&decide (c≤122))=true:=vj.mpr fun c m=>by
   have:=h2 c m
   simp only [v4,decide_eq_true_eq]
   exact this
  rw [this,Bool.and_true]
  by_cases z:x.length≤8
  · rw [decide_eq_true z,decide_eq_false (by omega)];rfl
  · rw [decide_eq_false z,decide_eq_true (by omega)];rfl
 |false=>
  rw [Bool.and_false]
  unfold nmB
  by_cases z:0 < x.length
  · have:(cl x).all (fun c=>decide (97≤c)&&decide (c≤122))=false:=by
     rw [vT]
     intro q
     have:=h.mpr ⟨z,fun c m=>by
      have:=vj.mp q c m
      simp only [v4,decide_eq_true_eq] at this
      exact this⟩
     rw [e] at this
     cases this
    rw [this,Bool.and_false,Bool.and_false]
  · rw [decide_eq_false z,Bool.false_and]
section
variable {P:Program} {w:World} {K:PySem.W.Frag} {mg:Str→Option Value} {base:Heap}
def spNq:Sp:=fun vs H Q _=>∃(x:Str),vs= [.str x]∧x.length≤sizeLine∧Q (.bl (nmB x)) H
theorem scNq:aN ["thing"] ["thing"] (af sNmQ):=⟨rfl,rfl,rfl,by decide +kernel,rfl,by decide +kernel,by decide +kernel⟩
theorem uw {f:Addr} {fd:FuncData} {tk:Tok} (F:Fun K "is_name" "is_name" sNmQ f fd) (B:Blt mg) (mL:mg "MOST_LETTERS"=some (.int 8 tk)):FnOk P w K mg base CX0 1 f fd ["thing"] spNq:=by
 refine F.ok scNq (fun vs H Q E h=> ?_) (fun cdv A outer s H vs Q E hr h=> ?_)
 · obtain ⟨x,rfl,_⟩:=h
   rfl
 obtain ⟨x,rfl,hx,k⟩:=h
 refine ⟨_,a9 (aS (PW.pt (bf (cw (bq (aq (r:=rIsi K) jb rfl B.isi aQ (a7 (pv 0) (a7 (i8 (v:= .ty "str") rfl B.st PyProof.Rows.boot_str rfl) a8))))) (bi (ah gn (aq bz rfl B.le PySem.boot_len (a7 (pv 0) a8)) (aZ (v:= .int 8) rfl mL ⟨_,rfl⟩) (ao _))))) (ag (aA eA)) aw)
  (ag (aA (i9 (fc PySem.F.plainAttrs_str PySem.F.slot_str_isascii PySem.F.type_str_isascii fg (pv 0)) (i9 (fc PySem.F.plainAttrs_str PySem.F.slot_str_isalpha PySem.F.type_str_isalpha jx (pv 0)) (i7 (fc PySem.F.plainAttrs_str PySem.F.slot_str_islower PySem.F.type_str_islower jv (pv 0))))))),?_⟩
 rw [t9] at k
 refine ⟨_,rfl, .str x, .ty "str", .type "str",true,rfl, .of (.str x), .inl ⟨rfl,tH K⟩,_,rfl,?_⟩
 refine iteF ?_
 refine ⟨_,rfl,x,rfl,hx,_,8,rfl,rfl,_,rfl,?_⟩
 by_cases z:(8:Int) < (x.length:Int)
 · refine if_t (decide_eq_true z) ?_
   rw [decide_eq_true z] at k
   exact k
 refine if_f (decide_eq_false z) ?_
 rw [decide_eq_false z] at k
 refine ⟨_,rfl,rfl,x,rfl,rfl,_,rfl,?_⟩
 cases e1:Txt.isascii x with
 |false=>rw [e1] at k;exact iteF k
 |true=>
  rw [e1] at k
  refine iteT ⟨_,rfl,rfl,x,rfl,rfl,_,rfl,?_⟩
  cases e2:Txt.isalpha x with
  |false=>rw [e2] at k;exact iteF k
  |true=>
   rw [e2] at k
   exact iteT ⟨_,rfl,rfl,x,rfl,rfl,k⟩
end
end K85
namespace Spl
open PySem PySem.NumText L2 Mth Dec
noncomputable def glue (d:Nat):List (List Nat)→List Nat
 | []=> []
 | [w]=>w
 |w::v::r=>w++d::glue d (v::r)
noncomputable def cuts (d:Nat):List Nat→List (List Nat)
 | []=> [[]]
 |c::l=>if c=d then []::cuts d l else match cuts d l with
  |w::r=>(c::w)::r
  | []=> [[c]]
theorem cC (d:Nat):∀l,∃w r,cuts d l=w::r
 | []=>⟨_,_,rfl⟩
 |c::l=>by
  unfold cuts
  split
  · exact ⟨_,_,rfl⟩
  · obtain ⟨w,r,e⟩:=cC d l
    rw [e]
    exact ⟨_,_,rfl⟩
theorem cY (d:Nat):∀l,∀w∈cuts d l,¬d∈w
 | [],w,m=>by
  rw [vo.mp m]
  simp
 |c::l,w,m=>by
  unfold cuts at m
  split at m
  · rcases vd.mp m with rfl|m
    · simp
    · exact cY d l w m
  · rename_i hc
    obtain ⟨v,r,e⟩:=cC d l
    rw [e] at m
    rcases vd.mp m with rfl|m
    · intro z
      rcases vd.mp z with z|z
      · exact hc z.symm
      · exact cY d l v (by rw [e];simp) z
    · exact cY d l w (by rw [e];exact uX _ m)
theorem cu (d:Nat):∀l,glue d (cuts d l)=l
 | []=>rfl
 |c::l=>by
  obtain ⟨v,r,e⟩:=cC d l
  have ih:=cu d l
  unfold cuts
  split
  · rename_i hc
    rw [e] at ih ⊢
    show []++d::glue d (v::r)=c::l
    rw [ih,hc]
    rfl
  · rw [e] at ih ⊢
    cases r with
    |nil=>
     show c::v=c::l
     rw [show v=l from ih]
    |cons u r=>
     show (c::v)++d::glue d (u::r)=c::l
     rw [List.cons_append,show v++d::glue d (u::r)=l from ih]
theorem iY {d:Nat}:∀ {a b:List (List Nat)},a≠ []→b≠ []→(∀w∈a,¬d∈w)→(∀w∈b,¬d∈w)→glue d a=glue d b→a=b
 | [],_,h,_,_,_,_=>absurd rfl h
 |_::_,[],_,h,_,_,_=>absurd rfl h
 | [w],[v],_,_,_,_,e=>by rw [show w=v from e]
 | [w],v::v'::r,_,_,ha,_,e=>by
  have e:w=v++d::glue d (v'::r):=e
  exact absurd (show d∈w by rw [e];simp) (ha w v7)
 |w::w'::r,[v],_,_,_,hb,e=>by
  have e:w++d::glue d (w'::r)=v:=e
  exact absurd (show d∈v by rw [←e];simp) (hb v v7)
 |w::w'::r,v::v'::s,_,_,ha,hb,e=>by
  have e:w++d::glue d (w'::r)=v++d::glue d (v'::s):=e
  have key:∀ {x y p q:List Nat},¬d∈x→¬d∈y→x++d::p=y++d::q→x=y∧p=q:=by
   intro x
   induction x with
   |nil=>
    intro y p q _ hy e
    cases y with
    |nil=>exact ⟨rfl,(List.cons.inj e).2⟩
    |cons c y=>exact absurd (show d∈c::y by rw [←(List.cons.inj e).1];simp) hy
   |cons c x ih=>
    intro y p q hx hy e
    cases y with
    |nil=>exact absurd (show d∈c::x by rw [(List.cons.inj e).1];simp) hx
    |cons b y=>
     obtain ⟨e1,e2⟩:=List.cons.inj e
     obtain ⟨e3,e4⟩:=ih (fun m=>hx (uX _ m)) (fun m=>hy (uX _ m)) e2
     exact ⟨by rw [e1,e3],e4⟩
  obtain ⟨e1,e2⟩:=key (ha w v7) (hb v v7) e
  rw [e1,iY (by simp) (by simp) (fun x m=>ha x (uX _ m)) (fun x m=>hb x (uX _ m)) e2]
theorem im {d:Nat} {l:List Nat} {ws:List (List Nat)} (h0:ws≠ []) (hw:∀w∈ws,¬d∈w) (e:l=glue d ws):cuts d l=ws:=by
 obtain ⟨v,r,q⟩:=cC d l
 exact iY (by rw [q];simp) h0 (cY d l) hw (by rw [cu,e])
theorem gB (d:Nat):∀(ys:List Str),cl (Str.join ⟨#[d]⟩ ys)=glue d (ys.map cl)
 | []=>rfl
 | [y]=>rfl
 |y::z::r=>by
  have e2:Str.join ⟨#[d]⟩ (y::z::r)=y++(⟨#[d]⟩:Str)++Str.join ⟨#[d]⟩ (z::r):=rfl
  rw [e2,cj,cj,gB d (z::r)]
  show cl y++ [d]++_=_
  simp [glue]
theorem nE (z y:Str):ba z y=Txt.split z y:=by
 unfold ba ic Txt.split
 cases (decide (z.length < y.length) ||decide (Builtin.Str.strKind z < Builtin.Str.strKind y)) with
 |true=>simp
 |false=>simp
theorem nB (z y:Str):Txt.split z y≠ []:=by
 unfold Txt.split
 split
 · simp
 · split
   · simp
   · rw [StrLaws.partsBetween_eq]
     obtain ⟨p,r,e⟩:=StrLaws.partsFrom_ne z y.length 0 (Builtin.Str.occurrences z y 0 z.length (z.length+1))
     rw [e]
     simp
theorem nI (z:Str) (d:Nat):(ba z ⟨#[d]⟩).map cl=cuts d (cl z):=by
 rw [nE]
 refine (im (by simpa using nB z ⟨#[d]⟩) (fun w m=> ?_) ?_).symm
 · obtain ⟨p,mp,rfl⟩:=vL.mp m
   exact StrLaws.split_free z d p mp
 · rw [←gB,StrLaws.join_split]
def mkS (l:List Nat):Str:=⟨l.toArray⟩
theorem dg (l:List Nat):cl (mkS l)=l:=rfl
theorem oH (z:Str):mkS (cl z)=z:=fO rfl
theorem iD (z:Str) (d:Nat):ba z ⟨#[d]⟩=(cuts d (cl z)).map mkS:=by
 rw [←nI,List.map_map]
 have:(mkS ∘ cl:Str→Str)=id:=funext fun x=>oH x
 rw [this,List.map_id]
theorem iX (d:Nat):∀ws:List (List Nat),(glue d ws).length+1≥ws.length∧∀w∈ws,w.length≤(glue d ws).length
 | []=>⟨by simp,fun w m=>by cases m⟩
 | [w]=>⟨by simp,fun v m=>by rw [vo.mp m];exact uW _⟩
 |w::v::r=>by
  obtain ⟨h1,h2⟩:=iX d (v::r)
  have e:(glue d (w::v::r)).length=w.length+((glue d (v::r)).length+1):=by
   show (w++d::glue d (v::r)).length=_
   simp
  refine ⟨by rw [e];simp only [uU] at h1 ⊢;omega,fun u m=> ?_⟩
  rw [e]
  rcases vd.mp m with rfl|m
  · omega
  · have:=h2 u m
    omega
theorem j6 (d:Nat) (l:List Nat):(cuts d l).length≤l.length+1∧∀w∈cuts d l,w.length≤l.length:=by
 have:=iX d (cuts d l)
 rw [cu] at this
 exact ⟨this.1,this.2⟩
def dgB (c:Nat):Bool:=decide (48≤c)&&decide (c≤57)
noncomputable def cnB (l:List Nat):Bool:=l.all dgB&& (!l.isEmpty&& (!(l.head?==some 48) ||l== [48]))
theorem all_dg {l:List Nat}:l.all dgB=true↔AllDigits l:=by
 rw [vj]
 unfold AllDigits dgB
 simp only [v4,decide_eq_true_eq]
theorem ik:ds 0= [48]:=by decide +kernel
theorem qW {n:Nat} (h:n≠0):∃c r,ds n=c::r∧c≠48:=by
 cases e:ds n with
 |nil=>exact absurd e (lj n)
 |cons c r=>
  refine ⟨c,r,rfl,fun z=> ?_⟩
  subst z
  have hd:AllDigits r:=fun x m=>dc n x (by rw [e];exact uX _ m)
  have hv:digitsVal r=n:=by rw [←cB n,e];rfl
  have l1:(ds n).length=r.length+1:=by rw [e];rfl
  have l2:=gX hd
  rw [hv] at l2
  cases k:r.length with
  |zero=>
   rw [k] at l2
   exact h (by omega)
  |succ j=>
   rw [k] at l2
   have:=dY j l2
   omega
theorem jJ (n:Nat):cnB (ds n)=true:=by
 unfold cnB
 rw [all_dg.mpr (dc n),Bool.true_and]
 by_cases z:n=0
 · subst z
   rw [ik]
   rfl
 · obtain ⟨c,r,e,hc⟩:=qW z
   rw [e]
   simp [hc]
theorem pk {l:List Nat} (h:cnB l=true):ds (digitsVal l)=l:=by
 unfold cnB at h
 rw [v4,all_dg,v4] at h
 obtain ⟨h1,h2,h3⟩:=h
 cases l with
 |nil=>cases h2
 |cons c r=>
  have:=PySem.NumText.toDigits_digitsVal r.length (c::r) rfl h1 (by
   rw [Bool.or_eq_true] at h3
   rcases h3 with h3|h3
   · right
     have hc:=h1.head
     have:c≠48:=by simpa using h3
     exact ⟨c,r,rfl,by omega⟩
   · left
     have:=beq_iff_eq.mp h3
     injection this with _ e
     rw [e]
     rfl)
  unfold ds
  rw [this,List.map_map]
  conv=>rhs;rw [←List.map_id (c::r)]
  refine List.map_congr_left fun x m=> ?_
  have hx:=h1 x m
  show (Char.ofNat x).toNat=x
  have:∀y:Nat,y≤57→(Char.ofNat y).toNat=y:=by decide
  exact this x hx.2
noncomputable def topL (h:List Nat):List Nat:=if h.head?=some 45 then h.drop 1 else h
noncomputable def valL (h:List Nat):Int:=if h.head?=some 45 then -((digitsVal (h.drop 1):Nat):Int) else ((digitsVal h:Nat):Int)
noncomputable def frL (l:List Nat):Option (Int×Int):=match cuts 47 l with
 | [h]=>if cnB (topL h)&& !(h== [45,48]) then some (valL h,1) else none
 | [h,b]=>if cnB (topL h)&& (!(h== [45,48])&& (cnB b&& (decide (2≤digitsVal b)&& (decide (digitsVal (topL h)≠0)&&decide (Nat.gcd (digitsVal (topL h)) (digitsVal b)=1))))) then some (valL h,((digitsVal b:Nat):Int)) else none
 |_=>none
theorem no45 (n:Nat):(ds n).head?≠some 45:=by
 cases e:ds n with
 |nil=>simp
 |cons c r=>
  intro z
  have hc:=dc n c (by rw [e];simp)
  have:c=45:=by simpa using z
  omega
theorem sr (x:Int):topL (sg x++ds x.natAbs)=ds x.natAbs∧valL (sg x++ds x.natAbs)=x∧(sg x++ds x.natAbs)≠ [45,48]:=by
 unfold topL valL sg
 by_cases h:x < 0
 · rw [if_pos h]
   refine ⟨by simp,?_,fun z=> ?_⟩
   · rw [if_pos (by simp)]
     simp only [List.cons_append,List.nil_append,List.drop_succ_cons,List.drop_zero,cB]
     omega
   · have:ds x.natAbs=ds 0:=by
      rw [ik]
      simpa using z
     have:=tX this
     omega
 · rw [if_neg h]
   have n45:=no45 x.natAbs
   refine ⟨by rw [if_neg (by simpa using n45)];rfl,?_,fun z=> ?_⟩
   · rw [if_neg (by simpa using n45),List.nil_append,cB]
     omega
   · rw [List.nil_append] at z
     rw [z] at n45
     exact n45 rfl
theorem rH (x:Int):¬47∈sg x++ds x.natAbs:=by
 intro m
 rcases vH.mp m with m|m
 · unfold sg at m
   split at m
   · simp at m
   · cases m
 · exact gH (by decide) m
theorem qR {x y:Int} (h:cU x y):frL (txt x y)=some (x,y):=by
 obtain ⟨h1,h2,h3⟩:=sr x
 obtain ⟨y0,g⟩:=h
 unfold frL
 by_cases e:y=1
 · have:cuts 47 (txt x y)= [sg x++ds x.natAbs]:=im (by simp) (fun w m=>by rw [vo.mp m];exact rH x) (by
    unfold txt low
    rw [if_pos e,vB]
    rfl)
   rw [this]
   dsimp only
   rw [h1,h2,jJ,beq_eq_false_iff_ne.mpr h3,e]
   rfl
 · have:cuts 47 (txt x y)= [sg x++ds x.natAbs,ds y.natAbs]:=im (by simp) (fun w m=>by
    rcases vd.mp m with rfl|m
    · exact rH x
    · rw [vo.mp m]
      exact gH (by decide)) (by
    unfold txt low
    rw [if_neg e,←List.append_assoc]
    rfl)
   rw [this]
   dsimp only
   have x0:x.natAbs≠0:=fun z=>by
    have:x=0:=by omega
    rw [this,Int.gcd_zero_left] at g
    omega
   rw [h1,h2,jJ,beq_eq_false_iff_ne.mpr h3,jJ,cB,cB,decide_eq_true (show 2≤y.natAbs by omega),decide_eq_true (p:=x.natAbs≠0) x0,decide_eq_true (show Nat.gcd x.natAbs y.natAbs=1 from g)]
   rw [show ((y.natAbs:Nat):Int)=y by omega]
   rfl
theorem kJ {h:List Nat} (hc:cnB (topL h)=true) (hn:h≠ [45,48]):h=sg (valL h)++ds (valL h).natAbs:=by
 unfold topL at hc
 unfold valL sg
 by_cases z:h.head?=some 45
 · rw [if_pos z] at hc ⊢
   cases h with
   |nil=>cases z
   |cons c r=>
    have ec:c=45:=by simpa using z
    subst ec
    rw [List.drop_succ_cons,List.drop_zero] at hc ⊢
    have e:=pk hc
    have nz:digitsVal r≠0:=fun q=>by
     rw [q,ik] at e
     exact hn (by rw [←e])
    rw [if_pos (by omega),show (-((digitsVal r:Nat):Int)).natAbs=digitsVal r by omega,e]
    rfl
 · rw [if_neg z] at hc ⊢
   rw [if_neg (by omega),show (((digitsVal h:Nat):Int)).natAbs=digitsVal h by omega,pk hc]
   rfl
theorem rm {h:List Nat}:(valL h).natAbs=digitsVal (topL h):=by
 unfold valL topL
 split
 · omega
 · omega
theorem p6 {l:List Nat} {p:Int×Int} (h:frL l=some p):cU p.1 p.2∧l=txt p.1 p.2:=by
 have gl:=cu 47 l
 unfold frL at h
 split at h
 · rename_i a e
   rw [e] at gl
   split at h
   · rename_i q
     rw [v4,Bool.not_eq_true',beq_eq_false_iff_ne] at q
     cases h
     refine ⟨⟨by show (0:Int) < 1;decide,Int.gcd_one_right _⟩,?_⟩
     have:=kJ q.1 q.2
     rw [←gl]
     show a=txt (valL a) 1
     unfold txt low
     rw [if_pos rfl,vB]
     exact this
   · cases h
 · rename_i a b e
   rw [e] at gl
   split at h
   · rename_i q
     simp only [v4,Bool.not_eq_true',beq_eq_false_iff_ne,decide_eq_true_eq] at q
     obtain ⟨q1,q2,q3,q4,q5,q6⟩:=q
     cases h
     refine ⟨⟨by show (0:Int) < ((digitsVal b:Nat):Int);omega,?_⟩,?_⟩
     · show Nat.gcd (valL a).natAbs (((digitsVal b:Nat):Int)).natAbs=1
       rw [rm]
       exact q6
     · have:=kJ q1 q2
       rw [←gl]
       show a++47::b=txt (valL a) ((digitsVal b:Nat):Int)
       unfold txt low
       rw [if_neg (by omega),←List.append_assoc,←this,show (((digitsVal b:Nat):Int)).natAbs=digitsVal b by omega,pk q3]
   · cases h
 · cases h
end Spl
namespace K85
open PySem L2 Mth Dec Tre Wd Spl
inductive Et where
 |fl (x:Str)
 |nm (x:Str) (p:Fr)
 |ca (x:Str) (ps:List Fr) (p:Fr)
def Et.pl:Et→Nat
 | .fl _=>0
 | .nm _ _=>1
 | .ca _ _ _=>2
noncomputable def Et.key:Et→Tr
 | .fl x=> .str x
 | .nm x _=> .str x
 | .ca x ps _=> .tup [.str x, .tup (ps.map frT)]
noncomputable def Et.val:Et→Tr
 | .fl _=> .bl true
 | .nm _ p=>frT p
 | .ca _ _ p=>frT p
noncomputable def Et.tr (e:Et):Tr:= .tup [.int (e.pl:Int),e.key,e.val]
noncomputable def etO:Option Et→Tr
 |none=> .non
 |some e=>e.tr
def frO:Option Fr→Tr
 |none=> .non
 |some p=>frT p
noncomputable def allS:List (Option Fr)→Option (List Fr)
 | []=>some []
 |none::_=>none
 |some p::r=>(allS r).map (p:: ·)
noncomputable abbrev frS (z:Str):Option Fr:=frL (cl z)
def dl:Str:=Str.ofString "flag"
def cO:Str:=Str.ofString "name"
def eg:Str:=Str.ofString "call"
def sEq:Str:=Str.ofString "="
noncomputable def caF (b:Str) (ms:List Str) (e:Str):Option Et:=match allS (ms.map frS),frS e with
 |some ps,some p=>some (.ca b ps p)
 |_,_=>none
noncomputable def lnF:List Str→Option Et
 |a::b::r=>if nmB b=true then
  (if a=dl then (if r.isEmpty then some (.fl b) else none)
  else if a=cO then (match r with| [c]=>(frS c).map (.nm b)|_=>none)
  else if a=eg∧3≤r.length∧r.length≤5∧r[r.length - 2]?=some sEq then caF b (r.take (r.length - 2)) (r.getLastD a)
  else none) else none
 |_=>none
theorem allS_none:∀ {os:List (Option Fr)},(os.map frO).any (fun u=>eqT u .non)=true↔allS os=none
 | []=>by simp [allS]
 |none::r=>by simp [allS,frO,eqT]
 |some p::r=>by
  have ih:=allS_none (os:=r)
  rw [uZ,vX,show eqT (frO (some p)) .non=false from rfl,Bool.false_or,ih]
  simp [allS]
theorem e9:∀ {os:List (Option Fr)} {ps:List Fr},allS os=some ps→os.map frO=ps.map frT
 | [],ps,e=>by cases e;rfl
 |none::r,ps,e=>by cases e
 |some p::r,ps,e=>by
  simp only [allS,vK] at e
  obtain ⟨qs,e1,rfl⟩:=e
  rw [uZ,uZ,e9 e1]
  rfl
theorem bv {H:Hp} {r:Addr} {vs:List V} {ts:List Tr} (h:H r=some (.tup vs)) (h1:TrsAt H vs ts):TrAt H (.ref r) (.tup ts):=by
 unfold TrAt
 exact ⟨r,vs,rfl,h,h1⟩
theorem at_t {H:Hp} {v:V} {ts:List Tr} (h:TrAt H v (.tup ts)):∃a vs,v= .ref a∧H a=some (.tup vs)∧TrsAt H vs ts:=by
 unfold TrAt at h
 exact h
theorem neT {a b:V} (h:a≠b):(!decide (a=b))=true:=by rw [decide_eq_false h];rfl
theorem neF {a b:V} (h:a=b):(!decide (a=b))=false:=by rw [decide_eq_true h];rfl
theorem sne {a b:Str} (h:¬a=b):V.str a≠V.str b:=fun z=>h (V.str.inj z)
theorem e5 {H:Hp}:TrAt H .non .non:=by unfold TrAt;rfl
theorem bK {H:Hp} {i:Int}:TrAt H (.int i) (.int i):=by unfold TrAt;rfl
theorem cD {H:Hp} {x:Str}:TrAt H (.str x) (.str x):=by unfold TrAt;rfl
theorem pM {H:Hp} {b:Bool}:TrAt H (.bl b) (.bl b):=by unfold TrAt;rfl
theorem ju {H:Hp} {v:V} (h:TrAt H v .non):v= .non:=by unfold TrAt at h;exact h
theorem sG {H:Hp} {v:V} {p:Fr} (h:TrAt H v (frT p)):∃r,v= .ref r:=by
 obtain ⟨r,_,e,_⟩:=at_t h
 exact ⟨r,e⟩
theorem tQ (p:Fr):(frT p).depth≤1:=by simp [frT,Tr.depth,Trs.depth]
theorem kP (o:Option Fr):(frO o).depth≤40:=by
 cases o with
 |none=>simp [frO,Tr.depth]
 |some p=>exact vh (tQ p) (by decide)
theorem rW {t:Str} {H:Hp} {Q:VK} (k:∀v H',Same H H'→TrAt H' v (frO (frS t))→Q v H'):
 (∃x y,cU x y∧cl t=txt x y∧∀r H',H r=none→Same H H'→H' r=some (.tup [.int x, .int y])→Q (.ref r) H')∨((∀x y,cU x y→cl t≠txt x y)∧∀H',Same H H'→Q .non H'):=by
 cases e:frS t with
 |some p=>
  rw [e] at k
  obtain ⟨h1,h2⟩:=p6 e
  exact .inl ⟨p.1,p.2,h1,h2,fun r H' _ s hr=>k _ H' s (bv hr (.cons bK (.cons bK .nil)))⟩
 |none=>
  rw [e] at k
  refine .inr ⟨fun x y h z=> ?_,fun H' s=>k .non H' s e5⟩
  have:=qR h
  rw [←z] at this
  rw [show frL (cl t)=none from e] at this
  cases this
theorem u9 {mp:List (Option Nat)} {wi:TI} {te:TE} {Z:Ends} {i:Nat} {σ rest:L2.St} {H:Hp} (e:subS mp σ=none::rest) (h:wi σ H fun J H1=>∀D,H1 D=none→jg J D te rest (fun x H2=>bB i x σ H2 Z.nx) H1):
 tAsg (di mp wi (bB 0) dh te) (bB i) Z σ H:=iz e h
section
variable {P:Program} {w:World} {K:PySem.W.Frag} {mg:Str→Option Value} {base:Heap}
def nR:Sp:=fun vs H Q _=>∃(l:Addr) (zs:List Str),vs= [.ref l]∧H l=some (.lst (zs.map V.str))∧zs.length≤300∧(∀z∈zs,z.length≤200)∧∀v H',Same H H'→TrAt H' v (etO (lnF zs))→Q v H'
theorem scEn:aN ["words","handed","value"] ["words"] (af sEnt):=⟨rfl,rfl,rfl,by decide +kernel,rfl,by decide +kernel,by decide +kernel⟩
theorem rg {zs:List Str} {e:Str} (h:zs.getLast?=some e):atI (zs.map V.str) (-1)=some (.str e):=by
 have hne:zs≠ []:=fun z=>by rw [z] at h;cases h
 have hl:0 < zs.length:=List.length_pos_iff.mpr hne
 unfold atI ixN
 rw [uT,if_neg (by omega),if_pos (by omega)]
 show (zs.map V.str)[(-1+(zs.length:Int)).toNat]?=_
 rw [show (-1+(zs.length:Int)).toNat=zs.length - 1 by omega,vn]
 rw [List.getLast?_eq_getElem?] at h
 rw [h]
 rfl
theorem je {zs:List Str} (hl:2≤zs.length):∃q,zs[zs.length - 2]?=some q∧atI (zs.map V.str) (-2)=some (.str q):=by
 refine ⟨zs[zs.length - 2],uV (by omega),?_⟩
 unfold atI ixN
 rw [uT,if_neg (by omega),if_pos (by omega)]
 show (zs.map V.str)[(-2+(zs.length:Int)).toNat]?=_
 rw [show (-2+(zs.length:Int)).toNat=zs.length - 2 by omega,vn,uV (by omega)]
 rfl
theorem qX {zs:List Str} (hl:4≤zs.length):cutV (zs.map V.str) (some 2) (some (-2))=((zs.drop 2).take (zs.length - 4)).map V.str:=by
 unfold cutV HT.sIx
 dsimp only
 rw [uT,if_pos (show (-2:Int) < 0 by decide),if_neg (show¬(2:Int) < 0 by decide),show min (2:Int).toNat zs.length=2 by simp;omega,show (-2+(zs.length:Int)).toNat=zs.length - 2 by omega,show zs.length - 2 - 2=zs.length - 4 by omega,List.map_take,List.map_drop]
theorem t5 {f fN fF:Addr} {fd dN dF:FuncData} {tk:Tok} (F:Fun K "entry_in" "entry_in" sEnt f fd) (B:Blt mg) (mM:mg "MOST_IN_CALL"=some (.int 3 tk))
 (gN:FnOk P w K mg base CX0 1 fN dN ["thing"] spNq) (kN:PySem.W.keepIn K (.ref fN)=true) (bN:Binds K dN ["thing"] []) (mN:mg "is_name"=some (.ref fN))
 (gF:FnOk P w K mg base CX0 4 fF dF ["text"] spFi) (kF:PySem.W.keepIn K (.ref fF)=true) (bF:Binds K dF ["text"] []) (mF:mg "fraction_in"=some (.ref fF)):FnOk P w K mg base CX0 5 f fd ["words"] nR:=by
 refine F.ok scEn (fun vs H Q E h=> ?_) (fun cdv A outer s H vs Q E hr h=> ?_)
 · obtain ⟨l,zs,rfl,_⟩:=h
   rfl
 obtain ⟨l,zs,rfl,hl,h300,h200,k⟩:=h
 have hr1:Room 1 _:=hr.mono (by decide)
 have hun:=hr.units
 have hu50:_+50 < cLine:=vA (vI (by decide) _) hun
 refine ⟨_,a9 (aS (PW.pt (bf (ah eD (aq am rfl B.le PySem.boot_len (a7 (pv 0) a8)) ac (ao _)) (bi (cw (bq (au gN hr1 rfl mN kN bN .nil aL (a7 (aE av (pv 0) ac fun _ _=>rfl) a8))))))) (ag (aA bb)) aw)
  (a9 (aS (PW.pt (eZ (ah b9 (aE av (pv 0) ac fun _ _=>rfl) ad (ao _)) (eK (ah b9 (aq am rfl B.le PySem.boot_len (a7 (pv 0) a8)) ac (ao _))))) (ag (aA (bu (a7 ac (a7 (aE av (pv 0) ac fun _ _=>rfl) (a7 eA a8)))))) aw)
  (a9 (ar (i:=1) scEn.nd rfl (Or.inl rfl) (bj a8))
  (a9 (aS (PW.pt (eZ (ah b9 (aE av (pv 0) ac fun _ _=>rfl) ad (ao _)) (eZ (o8 rM rM ac (aq am rfl B.le PySem.boot_len (a7 (pv 0) a8)) (ak aX ac (aZ (v:= .int 3) rfl mM ⟨_,rfl⟩))) (eK (ah b9 (aE av (pv 0) (dm cv ac) fun _ _=>rfl) ad (ao _))))))
   (ag (k7 (NC:= ["word"]) (mp:= [none]) (i:=1) rfl scEn.nd rfl rfl rfl (i4 (bc hW (pv 0) (be ac) (be (dm cv ac)))) (fun _ _ _ _ _=>aY (i:=0) (by simp) rfl (Or.inl rfl)) (fun _ _ _ _ _=>k6) (fun _ _ _ _ _=>au gF hr rfl mF kF bF .nil aL (a7 (pv 0) a8))))
   (ag (aS (PW.pt (bf (ah cF (aE av (pv 0) ac fun _ _=>rfl) ad (ao _)) (bi (ah cF (aq am rfl B.le PySem.boot_len (a7 (pv 0) a8)) ac (ao _))))) (ag (aA bb)) aw)))
  (a9 (ar (i:=2) scEn.nd rfl (Or.inl rfl) (au gF hr rfl mF kF bF .nil aL (a7 (aE av (pv 0) (dm cv ac) fun _ _=>rfl) a8)))
  (a9 (aS (PW.pt (bf (ah fe (pv 2) bb (ao _)) (bi (ah (or hu50) bb (pv 1) (by with_unfolding_all rfl))))) (ag (aA bb)) aw)
  (ag (aA (bn (o5 (pv 1) (fun _=>rfl)) (bu (a7 ac (a7 (bu (a7 (aE av (pv 0) ac fun _ _=>rfl) (a7 (aJ d7 rfl B.tu PyProof.Rows.boot_tuple (a7 (pv 1) a8)) a8))) (a7 (pv 2) a8)))) (bu (a7 ac (a7 (aE av (pv 0) ac fun _ _=>rfl) (a7 (pv 2) a8)))))))))))),?_⟩
 have hL:(20000:Nat)≤sizeLine:=by decide +kernel
 have no:∀H',Same H H'→lnF zs=none→Q .non H':=fun H' sH e=>by
  rw [e] at k
  exact k .non H' sH e5
 refine ⟨_,rfl,l,_,rfl, .inl (SqL.of hl),_,2,rfl,rfl,_,rfl,?_⟩
 rw [uT]
 cases zs with
 |nil=>exact if_t (decide_eq_true (by simp)) (no H (Same.refl H) rfl)
 |cons a zs=>
 cases zs with
 |nil=>exact if_t (decide_eq_true (by simp)) (no H (Same.refl H) rfl)
 |cons b r=>
 refine if_f (decide_eq_false (by simp only [uU];omega)) ?_
 have a0:atI ((a::b::r).map V.str) 0=some (.str a):=aR (j:=0) rfl
 have a1:atI ((a::b::r).map V.str) 1=some (.str b):=aR (j:=1) rfl
 have lb:=h200 b (by simp)
 refine ⟨_,rfl,l,_,1,_,rfl,rfl,SqL.of hl,a1,b,rfl,by omega,_,rfl,?_⟩
 cases hb:nmB b with
 |false=>exact iteT (no H (Same.refl H) (by simp only [lnF,hb];rfl))
 |true=>
 refine iteF (eS ?_)
 dsimp only
 have k0:lnF (a::b::r)=(if a=dl then (if r.isEmpty then some (.fl b) else none)
  else if a=cO then (match r with| [c]=>(frS c).map (.nm b)|_=>none)
  else if a=eg∧3≤r.length∧r.length≤5∧r[r.length - 2]?=some sEq then caF b (r.take (r.length - 2)) (r.getLastD a)
  else none):=by simp only [lnF,hb,if_true]
 have lr:((a::b::r).length:Int)=(r.length:Int)+2:=by simp only [uU];omega
 have eqS:∀x y:Str,x=y→V.str x=V.str y:=fun x y e=>by rw [e]
 refine az (fun σ' H'=>σ'= [some (.ref l),none,none]∧H=H'∧¬(a=dl∧r= [])) ?_ fun nx hnx=> ?_
 rotate_left
 · refine ⟨_,rfl,l,_,0,_,rfl,rfl,SqL.of hl,a0,rfl,_,rfl,?_⟩
   by_cases e:a=dl
   · refine if_t (decide_eq_true (eqS _ _ e)) ?_
     refine ⟨_,rfl,l,_,rfl, .inl (SqL.of hl),rfl,_,rfl,?_⟩
     rw [uT,lr]
     cases r with
     |nil=>
      refine if_t (decide_eq_true rfl) ?_
      refine ⟨_,rfl,l,_,1,_,rfl,rfl,SqL.of hl,a1,by show 3≤sizeLine;decide,fun t nt=> ?_⟩
      rw [k0,if_pos e] at k
      exact k _ _ (ae nt) (bv aa (.cons bK (.cons cD (.cons pM .nil))))
     |cons c r=>
      refine if_f (decide_eq_false fun z=> ?_) (hnx _ _ ⟨rfl,rfl,fun z=>by cases z.2⟩)
      have z:=V.int.inj z
      simp only [uU] at z
      omega
   · exact if_f (decide_eq_false fun z=>e (V.str.inj z)) (hnx _ _ ⟨rfl,rfl,fun z=>e z.1⟩)
 rintro _ _ ⟨rfl,rfl,nfl⟩
 refine ⟨by show 0≤sizeLine;decide,fun D nD=> ?_⟩
 have s1:=ae (o:= .lst []) nD
 have hD1:(upd H D (.lst [])) D=some (.lst []):=aa
 generalize upd H D (.lst [])=H1 at*
 refine aM ?_
 dsimp only
 have hl1:=s1 _ _ hl
 refine az (fun σ' H2=>Same H H2∧∃(D':Addr) (ms:List Str) (e:Str) (xs:List V),σ'= [some (.ref l),some (.ref D'),none]∧H2 D'=some (.lst xs)∧TrsAt H2 xs (ms.map fun z=>frO (frS z))∧ms.length≤300∧(a::b::r).getLast?=some e∧
  ((ms= []∧lnF (a::b::r)=(frS e).map (.nm b))∨(ms≠ []∧lnF (a::b::r)=caF b ms e))) ?_ fun nx hnx=> ?_
 rotate_left
 · refine ⟨_,rfl,l,_,0,_,rfl,rfl,SqL.of hl1,a0,rfl,_,rfl,?_⟩
   by_cases ec:a=eg
   · have nF:¬a=dl:=by rw [ec];decide +kernel
     have nN:¬a=cO:=by rw [ec];decide +kernel
     rw [if_neg nF,if_neg nN] at k0
     refine if_t (decide_eq_true (eqS _ _ ec)) ?_
     refine ⟨_,rfl,l,_,rfl, .inl (SqL.of hl1),5,_,rfl,rfl,_,rfl,?_⟩
     rw [uT,lr]
     by_cases h5:(5:Int)≤(r.length:Int)+2
     · refine if_t (decide_eq_true h5) ?_
       refine ⟨4,3,rfl,rfl,_,_,rfl,rfl,_,rfl,?_⟩
       by_cases h7:(r.length:Int)+2≤4+3
       · refine if_t (decide_eq_true h7) ?_
         obtain ⟨q,eq1,eq2⟩:=je (zs:=a::b::r) (by simp only [uU];omega)
         have eq3:r[r.length - 2]?=some q:=by
          rw [←eq1]
          simp only [uU]
          rw [show r.length+1+1 - 2=(r.length - 2)+1+1 by omega]
          rfl
         refine ⟨_,rfl,2,rfl,l,_,_,_,rfl,rfl,SqL.of hl1,eq2,rfl,_,rfl,?_⟩
         by_cases hq:q=sEq
         · refine if_t (decide_eq_true (eqS _ _ hq)) ?_
           rw [if_pos ⟨ec,by omega,by omega,by rw [eq3,hq]⟩] at k0
           have h4:4≤(a::b::r).length:=by simp only [uU];omega
           refine u9 rfl ?_
           refine ⟨_,rfl,2,rfl,2,rfl,_,rfl,l,_,rfl,SqL.of hl1,fun p np=> ?_⟩
           have s2:=s1.trans (ae (o:= .lst (cutV ((a::b::r).map V.str) (some 2) (some (-2)))) np)
           have hp2:(upd H1 p (.lst (cutV ((a::b::r).map V.str) (some 2) (some (-2))))) p=some (.lst (cutV ((a::b::r).map V.str) (some 2) (some (-2)))):=aa
           generalize upd H1 p (.lst (cutV ((a::b::r).map V.str) (some 2) (some (-2))))=H2 at*
           rw [qX h4] at hp2
           have em:((a::b::r).drop 2).take ((a::b::r).length - 4)=r.take (r.length - 2):=by
            simp only [List.drop_succ_cons,List.drop_zero,uU]
            congr 1
           rw [em] at hp2
           have hms:∀z∈r.take (r.length - 2),z.length≤200:=fun z m=>h200 z (uX _ (uX _ (List.mem_of_mem_take m)))
           have lms:(r.take (r.length - 2)).length=r.length - 2:=by rw [vx];omega
           have lst:∃e,(a::b::r).getLast?=some e∧r.getLastD a=e:=by
            cases r with
            |nil=>simp at h5
            |cons c r=>
             have e0:(c::r).getLast?=some ((c::r).getLast (by simp)):=List.getLast?_eq_some_getLast (by simp)
             exact ⟨(c::r).getLast (by simp),by rw [List.getLast?_cons_cons,List.getLast?_cons_cons,e0],by rw [List.getLastD_eq_getLast?,e0];rfl⟩
           obtain ⟨e,el,ed⟩:=lst
           rw [ed] at k0
           generalize r.take (r.length - 2)=ms at*
           refine ⟨p,rfl,⟨_,SqL.of hp2⟩,fun D2 nD2=> ?_⟩
           refine gJ (xs:=ms.map V.str) (fun i acc H'=>Same H2 H'∧H' D2=some (.lst acc)∧TrsAt H' acc ((ms.take i).map fun z=>frO (frS z))) ⟨ae nD2,aa,by rw [List.take_zero];exact .nil⟩ (fun i acc H' q=>SqL.of (q.1 _ _ hp2)) ?_ ?_
           · rintro i x acc H3 hi ex ⟨s3,h3,t3⟩
             rw [vn] at ex
             obtain ⟨z,ez,rfl⟩:=vK.mp ex
             have mz:z∈ms:=vi ez
             refine ⟨_,rfl,z,rfl,hms z mz,rW fun v H4 s4 hv=> ?_⟩
             have al:=t3.len
             rw [uT,vx] at al
             rw [uT] at hi
             refine CompN.mk (by rw [uT];exact hi) (by omega) (s4 _ _ h3) ⟨b8 nD2 (s3.trans s4),aa,?_⟩
             have kd:=Kd.upd (ys:=acc++ [v]) (s4 _ _ h3)
             rw [List.take_add_one,ez,vp]
             exact TrsAt.app (.cons (hv.mono kd) .nil) ((t3.mono (Kd.of_same s4)).mono kd)
           rintro acc H3 ⟨s3,h3,t3⟩
           rw [uT,vU] at t3
           exact hnx _ _ ⟨s2.trans s3,D2,ms,e,acc,rfl,h3,t3,by omega,el, .inr ⟨fun z=>by rw [z] at lms;simp only [vR] at lms;omega,k0⟩⟩
         · refine if_f (decide_eq_false fun z=>hq (V.str.inj z)) ?_
           rw [if_neg (fun z=>hq (by have:=z.2.2.2;rw [eq3] at this;exact vk this))] at k0
           refine ⟨_,rfl,l,_,0,_,rfl,rfl,SqL.of hl1,a0,rfl,_,rfl,?_⟩
           exact if_t (neT (sne nN)) (no _ s1 k0)
       · refine if_f (decide_eq_false h7) ?_
         rw [if_neg (fun z=>by have:=z.2.2.1;omega)] at k0
         refine ⟨_,rfl,l,_,0,_,rfl,rfl,SqL.of hl1,a0,rfl,_,rfl,?_⟩
         exact if_t (neT (sne nN)) (no _ s1 k0)
     · refine if_f (decide_eq_false h5) ?_
       rw [if_neg (fun z=>by have:=z.2.1;omega)] at k0
       refine ⟨false,rfl,?_⟩
       refine iteF ?_
       refine ⟨_,rfl,l,_,0,_,rfl,rfl,SqL.of hl1,a0,rfl,_,rfl,?_⟩
       exact if_t (neT (sne nN)) (no _ s1 k0)
   · refine if_f (decide_eq_false fun z=>ec (V.str.inj z)) ?_
     refine ⟨_,rfl,l,_,0,_,rfl,rfl,SqL.of hl1,a0,rfl,_,rfl,?_⟩
     by_cases en:a=cO
     · have nF:¬a=dl:=by rw [en];decide +kernel
       rw [if_neg nF,if_pos en] at k0
       refine if_f (neF (eqS _ _ en)) ?_
       refine ⟨_,rfl,l,_,rfl, .inl (SqL.of hl1),rfl,_,rfl,?_⟩
       rw [uT,lr]
       match r,k0 with
       | [],k0=>exact iteT (no _ s1 k0)
       | [c],k0=>exact iteF (hnx _ _ ⟨s1,D,[],c,[],rfl,hD1, .nil,by simp,rfl, .inl ⟨rfl,k0⟩⟩)
       |c::c'::r',k0=>
        refine if_t (neT fun z=> ?_) (no _ s1 k0)
        have z:=V.int.inj z
        simp only [uU] at z
        omega
     · have k1:lnF (a::b::r)=none:=by
        rw [k0]
        by_cases eF:a=dl
        · rw [if_pos eF]
          cases r with
          |nil=>exact absurd ⟨eF,rfl⟩ nfl
          |cons c r=>rfl
        · rw [if_neg eF,if_neg en,if_neg (fun z=>ec z.1)]
       exact if_t (neT (sne en)) (no _ s1 k1)
 rintro _ H2 ⟨s2,D',ms,e,xs,rfl,hD2,hT,lm,el,hk⟩
 have le:e.length≤200:=h200 e (List.mem_of_getLast? el)
 have hl2:=s2 _ _ hl
 refine az (fun σ' H3=>Same H2 H3∧∃v,σ'= [some (.ref l),some (.ref D'),some v]∧TrAt H3 v (frO (frS e))) ?_ fun nx hnx=> ?_
 rotate_left
 · exact ⟨_,rfl,1,rfl,l,_,-1,V.str e,rfl,rfl,SqL.of hl2,rg el,e,rfl,le,rW (Q:=fun v H3=>nx ([some (V.ref l),some (V.ref D'),none].set 2 (some v)) H3) fun v H3 s3 hv=>hnx _ _ ⟨s3,v,rfl,hv⟩⟩
 rintro _ H3 ⟨s3,v,rfl,hv⟩
 have hD3:=s3 _ _ hD2
 have hT3:=hT.mono (Kd.of_same s3)
 have s23:=s2.trans s3
 have dep:∀u∈ms.map fun z=>frO (frS z),u.depth≤40:=fun u m=>by
  obtain ⟨z,_,rfl⟩:=vL.mp m
  exact kP _
 have e2:(ms.map fun z=>frO (frS z))=(ms.map frS).map frO:=by rw [List.map_map];rfl
 refine ⟨_,rfl,rfl,_,rfl,?_⟩
 cases ef:frS e with
 |none=>
  rw [ef] at hv
  have:=ju hv
  subst this
  refine if_t (decide_eq_true rfl) (no _ s23 ?_)
  rcases hk with ⟨_,q⟩|⟨_,q⟩
  · rw [q,ef];rfl
  · rw [q]
    unfold caF
    rw [ef]
    cases allS (ms.map frS)<;>rfl
 |some p=>
  rw [ef] at hv
  obtain ⟨rv,ev⟩:=sG hv
  refine if_f (decide_eq_false fun z=>by rw [ev] at z;cases z) ?_
  refine ⟨_,rfl,D',xs,_, .non,rfl, .inl hD3,hT3,e5,dep,trivial,_,rfl,?_⟩
  rw [e2]
  rcases hk with ⟨rfl,q⟩|⟨nn,q⟩
  · refine iteF ?_
    have xe:xs= []:=by have:=hT.len;simpa using this
    subst xe
    refine ⟨_,rfl,false, .inl ⟨[],SqL.of hD3,rfl⟩,?_⟩
    refine iteF ?_
    refine ⟨_,rfl,l,_,1,_,rfl,rfl,SqL.of (s3 _ _ hl2),a1,_,rfl,by show 3≤sizeLine;decide,fun t nt=> ?_⟩
    rw [q,ef] at k
    have s4:=ae (o:= .tup [V.int 1,V.str b,v]) nt
    exact k _ _ (s23.trans s4) (bv aa (.cons bK (.cons cD (.cons (hv.mono (Kd.of_same s4)) .nil))))
  · cases ea:allS (ms.map frS) with
    |none=>
     refine if_t (by rw [allS_none.mpr ea];rfl) (no _ s23 ?_)
     rw [q]
     unfold caF
     rw [ea]
    |some ps=>
     have na:((ms.map frS).map frO).any (fun u=>eqT u .non)=false:=by
      rw [vT]
      intro z
      rw [allS_none.mp z] at ea
      cases ea
     refine if_f (by rw [na];rfl) ?_
     have xl:=hT3.len
     rw [uT] at xl
     have xn:xs.isEmpty=false:=by
      cases xs with
      |nil=>
       cases ms with
       |nil=>exact absurd rfl nn
       |cons m ms=>simp at xl
      |cons x xs=>rfl
     refine ⟨_,rfl,true, .inl ⟨xs,SqL.of hD3,by rw [xn];rfl⟩,?_⟩
     refine iteT ?_
     refine ⟨_,rfl,l,_,1,_,rfl,rfl,SqL.of (s3 _ _ hl2),a1,_,rfl,D',xs,rfl, .inl ⟨SqL.of hD3,fun t nt=> ?_⟩⟩
     have s4:=ae (o:= .tup xs) nt
     have ht4:(upd H3 t (.tup xs)) t=some (.tup xs):=aa
     generalize upd H3 t (.tup xs)=H4 at*
     refine ⟨by show 2≤sizeLine;decide,fun t2 nt2=> ?_⟩
     have s5:=ae (o:= .tup [V.str b,V.ref t]) nt2
     have ht5:(upd H4 t2 (.tup [V.str b,V.ref t])) t2=some (.tup [V.str b,V.ref t]):=aa
     generalize upd H4 t2 (.tup [V.str b,V.ref t])=H5 at*
     refine ⟨_,rfl,by show 3≤sizeLine;decide,fun t3 nt3=> ?_⟩
     have s6:=ae (o:= .tup [V.int 2,V.ref t2,v]) nt3
     have s46:=s4.trans (s5.trans s6)
     have q2:lnF (a::b::r)=some (.ca b ps p):=by
      rw [q]
      unfold caF
      rw [ea,ef]
     rw [q2] at k
     refine k _ _ (s23.trans s46) (bv aa (.cons bK (.cons ?_ (.cons (hv.mono (Kd.of_same s46)) .nil))))
     refine bv (s6 _ _ ht5) (.cons cD (.cons (bv ((s5.trans s6) _ _ ht4) ?_) .nil))
     rw [e2,e9 ea] at hT3
     exact hT3.mono (Kd.of_same s46)
end
open PySem PySem.NumText L2 Mth Dec Tre Wd Spl
abbrev figs:Str:=Str.ofString "0123456789"
abbrev ltrs:Str:=Str.ofString "abcdefghijklmnopqrstuvwxyz"
theorem tR (c:Nat):(!(Builtin.Str.occurrences figs ⟨#[c]⟩ 0 figs.length 1).isEmpty)=dgB c:=by
 rw [StrLaws.found_one,vD]
 unfold dgB
 have e:figs.cps.toList=(List.range 10).map (48+ ·):=by decide +kernel
 rw [decide_eq_true_eq,e,vL,v4,decide_eq_true_eq,decide_eq_true_eq]
 constructor
 · rintro ⟨d,m,rfl⟩
   have:=vG.mp m
   omega
 · intro h
   exact ⟨c - 48,vG.mpr (by omega),by omega⟩
def ltB (c:Nat):Bool:=decide (97≤c)&&decide (c≤122)
theorem tt (c:Nat):(!(Builtin.Str.occurrences ltrs ⟨#[c]⟩ 0 ltrs.length 1).isEmpty)=ltB c:=by
 rw [StrLaws.found_one,vD]
 unfold ltB
 have e:ltrs.cps.toList=(List.range 26).map (97+ ·):=by decide +kernel
 rw [decide_eq_true_eq,e,vL,v4,decide_eq_true_eq,decide_eq_true_eq]
 constructor
 · rintro ⟨d,m,rfl⟩
   have:=vG.mp m
   omega
 · intro h
   exact ⟨c - 97,vG.mpr (by omega),by omega⟩
theorem iA {p:Nat→Bool} {l:List Nat} {i:Nat} {c:Nat} (h:(l.take i).all p=true) (e:l[i]?=some c) (hc:p c=true):(l.take (i+1)).all p=true:=by
 rw [List.take_add_one,e,List.all_append,h]
 simp [hc]
theorem kj {p:Nat→Bool} {l:List Nat} {i:Nat} {c:Nat} (e:l[i]?=some c) (hc:p c=false):l.all p=false:=by
 rw [vT]
 intro z
 have:=vj.mp z c (vi e)
 rw [hc] at this
 cases this
theorem pG (z:Str) (i:Nat):z.cps[i]?=(cl z)[i]?:=by simp [cl]
theorem lE (z:Str):z.cps.size=(cl z).length:=by simp [cl]
section
variable {P:Program} {w:World} {K:PySem.W.Frag} {mg:Str→Option Value} {base:Heap}
def spLF:Sp:=fun vs H Q _=>∃(z:Str),vs= [.str z]∧z.length≤200∧Q (.bl (cnB (cl z))) H
theorem scLF:aN ["_law_word","_law_sign"] ["_law_word"] (af gj):=⟨rfl,rfl,rfl,by decide +kernel,rfl,by decide +kernel,by decide +kernel⟩
theorem uG {f:Addr} {fd:FuncData} (F:Fun K "_law_figures" "_law_figures" gj f fd):FnOk P w K mg base CX0 1 f fd ["_law_word"] spLF:=by
 refine F.ok scLF (fun vs H Q E h=> ?_) (fun cdv A outer s H vs Q E hr h=> ?_)
 · obtain ⟨z,rfl,_⟩:=h
   rfl
 obtain ⟨z,rfl,hz,k⟩:=h
 refine ⟨_,a9 (d8 PassesOwn.never rfl (oh (pv 0)) (aY (i:=1) scLF.nd rfl (Or.inl rfl))
  (ag (aS (ah dy (pv 1) ad rfl) (ag (aA eA)) aw)))
  (ag (aA (i9 (dw cF (pv 0) ad (ao _)) (i7 (ut (dw cF (aE jC (pv 0) ac fun _ _=>rfl) ad (ao _)) (i7 (dw b9 (pv 0) ad (ao _)))))))),?_⟩
 have hL:(20000:Nat)≤sizeLine:=by decide +kernel
 refine ⟨_,rfl,z,rfl,?_⟩
 refine kX (z:=z) (fun i σ H'=>H'=H∧((cl z).take i).all dgB=true∧∃v,σ= [some (.str z),v]) ⟨rfl,by simp,none,rfl⟩ ?_ ?_
 · rintro i c σ H' ec ⟨rfl,hd,v,rfl⟩
   rw [pG] at ec
   refine ⟨_,rfl,_,_,rfl,rfl,_,rfl,?_⟩
   rw [tR]
   cases hc:dgB c with
   |false=>
    refine iteT ?_
    have:cnB (cl z)=false:=by unfold cnB;rw [kj ec hc];rfl
    rw [this] at k
    exact k
   |true=>exact iteF ⟨rfl,iA hd ec hc,_,rfl⟩
 · rintro σ H' ⟨rfl,hd,v,rfl⟩
   rw [lE,vU] at hd
   refine ⟨_,rfl,rfl,_,rfl,?_⟩
   cases e:cl z with
   |nil=>
    have ez:z=Str.ofString "":=fO (by rw [e];decide +kernel)
    refine if_f (neF (by rw [ez])) ?_
    rw [e] at k
    exact k
   |cons c r=>
    have nz:z≠Str.ofString "":=fun q=>by rw [q] at e;cases e
    refine if_t (neT (sne nz)) ?_
    refine ⟨_,rfl,z,0,c,rfl,rfl,by omega,aR (j:=0) (by show (cl z)[0]?=_;rw [e];rfl),rfl,_,rfl,?_⟩
    have k1:cnB (cl z)=(!(c==48) ||cl z== [48]):=by
     unfold cnB
     rw [hd,Bool.true_and,e]
     simp
    rw [k1] at k
    by_cases h48:c=48
    · subst h48
      refine if_f (neF (by decide +kernel)) ?_
      refine ⟨_,rfl,rfl,?_⟩
      have:decide (V.str z=V.str (Str.ofString "0"))=(!((48:Nat)==48) ||cl z== [48]):=by
       rw [vD,decide_eq_true_eq]
       simp only [beq_self_eq_true,Bool.not_true,Bool.false_or,beq_iff_eq]
       constructor
       · intro q
         rw [V.str.inj q]
         decide +kernel
       · intro q
         rw [fO (x:=z) (y:=Str.ofString "0") (by rw [q];decide +kernel)]
      rw [this]
      exact k
    · have nc:(⟨#[c]⟩:Str)≠Str.ofString "0":=fun q=>by
       have q2:cl (⟨#[c]⟩:Str)=cl (Str.ofString "0"):=by rw [q]
       have q3:cl (Str.ofString "0")= [48]:=by decide +kernel
       rw [q3] at q2
       injection q2 with q2 _
       exact h48 q2
      refine if_t (neT (sne nc)) ?_
      rw [show (c==48)=false by simpa using h48] at k
      exact k
def spLN:Sp:=fun vs H Q _=>∃(z:Str),vs= [.str z]∧z.length≤200∧Q (.bl (nmB z)) H
theorem scLN:aN ["_law_word","_law_sign"] ["_law_word"] (af sLNm):=⟨rfl,rfl,rfl,by decide +kernel,rfl,by decide +kernel,by decide +kernel⟩
theorem uF {f:Addr} {fd:FuncData} (F:Fun K "_law_is_name" "_law_is_name" sLNm f fd) (B:Blt mg):FnOk P w K mg base CX0 1 f fd ["_law_word"] spLN:=by
 refine F.ok scLN (fun vs H Q E h=> ?_) (fun cdv A outer s H vs Q E hr h=> ?_)
 · obtain ⟨z,rfl,_⟩:=h
   rfl
 obtain ⟨z,rfl,hz,k⟩:=h
 refine ⟨_,a9 (d8 PassesOwn.never rfl (oh (pv 0)) (aY (i:=1) scLN.nd rfl (Or.inl rfl))
  (ag (aS (ah dy (pv 1) ad rfl) (ag (aA eA)) aw)))
  (ag (aA (om eD eD ac (aq bz rfl B.le PySem.boot_len (a7 (pv 0) a8)) ac))),?_⟩
 have hL:(20000:Nat)≤sizeLine:=by decide +kernel
 have kE:nmB z=(decide (0 < z.length)&& (decide (z.length≤8)&& (cl z).all ltB)):=rfl
 refine ⟨_,rfl,z,rfl,?_⟩
 refine kX (z:=z) (fun i σ H'=>H'=H∧((cl z).take i).all ltB=true∧∃v,σ= [some (.str z),v]) ⟨rfl,by simp,none,rfl⟩ ?_ ?_
 · rintro i c σ H' ec ⟨rfl,hd,v,rfl⟩
   rw [pG] at ec
   refine ⟨_,rfl,_,_,rfl,rfl,_,rfl,?_⟩
   rw [tt]
   cases hc:ltB c with
   |false=>
    refine iteT ?_
    rw [kE,kj ec hc,Bool.and_false,Bool.and_false] at k
    exact k
   |true=>exact iteF ⟨rfl,iA hd ec hc,_,rfl⟩
 · rintro σ H' ⟨rfl,hd,v,rfl⟩
   rw [lE,vU] at hd
   rw [kE,hd,Bool.and_true] at k
   refine ⟨_,rfl,z,rfl,by omega,0,_,rfl,rfl,_,rfl,?_⟩
   by_cases h0:0 < z.length
   · refine if_t (decide_eq_true (by omega)) ?_
     refine ⟨_,_,rfl,rfl,?_⟩
     rw [decide_eq_true h0,Bool.true_and] at k
     have:decide ((z.length:Int) < 9)=decide (z.length≤8):=by rw [decide_eq_decide];omega
     show Q (V.bl (decide ((z.length:Int) < 9))) H'
     rw [this]
     exact k
   · refine if_f (decide_eq_false (by omega)) ?_
     rw [decide_eq_false h0] at k
     exact k
end
open PySem PySem.NumText L2 Mth Dec Tre Wd Spl
theorem mn_cl:cl (Str.ofString "-")= [45]:=by decide +kernel
theorem p8 (z:Str):(V.str (Txt.slice z none (some 1))=V.str (Str.ofString "-"))↔(cl z).head?=some 45:=by
 have e:(V.str (Txt.slice z none (some 1))=V.str (Str.ofString "-"))↔cl (Txt.slice z none (some 1))= [45]:=by
  constructor
  · intro h
    rw [V.str.inj h,mn_cl]
  · intro h
    rw [fO (h.trans mn_cl.symm)]
 rw [e]
 cases q:cl z with
 |nil=>
  have l0:z.length=0:=by rw [←aG,q];rfl
  have:=Txt.slice_le z none (some 1)
  have l1:(cl (Txt.slice z none (some 1))).length=0:=by rw [aG];omega
  rw [List.length_eq_zero_iff.mp l1]
  simp
 |cons c r=>
  have:=sd (z:=z) (j:=1) (by rw [q];simp)
  rw [show ((1:Nat):Int)=1 from rfl] at this
  rw [this,q]
  simp
theorem uO {z:Str} (h:(cl z).head?=some 45):cl (Txt.slice z (some 1) none)=(cl z).drop 1:=by
 have hl:1≤(cl z).length:=by
  cases q:cl z with
  |nil=>rw [q] at h;cases h
  |cons c r=>simp
 exact qZ (z:=z) (i:=1) hl
theorem qM {h:List Nat} (hc:cnB (topL h)=true) (hl:h.length≤200):PySem.intText? (mkS h)=some (valL h):=by
 have hz:(mkS h).length≤4300:=by rw [←aG,dg];omega
 unfold topL at hc
 unfold valL
 by_cases z:h.head?=some 45
 · rw [if_pos z] at hc ⊢
   cases h with
   |nil=>cases z
   |cons c r=>
    have ec:c=45:=by simpa using z
    subst ec
    rw [List.drop_succ_cons,List.drop_zero] at hc ⊢
    unfold cnB at hc
    rw [v4,all_dg,v4] at hc
    exact intText_neg (x:=mkS (45::r)) (cs:=r) rfl hc.1 (fun q=>by rw [q] at hc;cases hc.2.1) hz
 · rw [if_neg z] at hc ⊢
   unfold cnB at hc
   rw [v4,all_dg,v4] at hc
   exact intText_digits (x:=mkS h) hc.1 (fun q=>by rw [show h= [] from q] at hc;cases hc.2.1) hz
theorem ij {h:List Nat} (hc:cnB h=true) (hl:h.length≤200):PySem.intText? (mkS h)=some ((digitsVal h:Nat):Int):=by
 have hz:(mkS h).length≤4300:=by rw [←aG,dg];omega
 unfold cnB at hc
 rw [v4,all_dg,v4] at hc
 exact intText_digits (x:=mkS h) hc.1 (fun q=>by rw [show h= [] from q] at hc;cases hc.2.1) hz
theorem bJ (h:List Nat):(mkS h).length=h.length:=by rw [←aG,dg]
theorem mk_eq {h:List Nat} {x:Str}:mkS h=x↔h=cl x:=by
 constructor
 · intro e
   rw [←e,dg]
 · intro e
   rw [e,oH]
theorem rO:cl (Str.ofString "-0")= [45,48]:=by decide +kernel
theorem jT (h:List Nat):(topL h).length≤h.length:=by
 unfold topL
 split
 · rw [vV];omega
 · exact uW _
section
variable {P:Program} {w:World} {K:PySem.W.Frag} {mg:Str→Option Value} {base:Heap}
def nP:Sp:=fun vs H Q _=>∃(z:Str),vs= [.str z]∧z.length≤200∧∀v H',Same H H'→TrAt H' v (frO (frS z))→Q v H'
theorem scLR:aN ["_law_word","_law_halves","_law_top","_law_one","_law_other","_law_rest"] ["_law_word"] (af sLFr):=⟨rfl,rfl,rfl,by decide +kernel,rfl,by decide +kernel,by decide +kernel⟩
theorem uE {f fF:Addr} {fd dF:FuncData} (F:Fun K "_law_fraction" "_law_fraction" sLFr f fd) (B:Blt mg)
 (gF:FnOk P w K mg base CX0 1 fF dF ["_law_word"] spLF) (kF:PySem.W.keepIn K (.ref fF)=true) (bF:Binds K dF ["_law_word"] []) (mF:mg "_law_figures"=some (.ref fF)):FnOk P w K mg base CX0 2 f fd ["_law_word"] nP:=by
 refine F.ok scLR (fun vs H Q E h=> ?_) (fun cdv A outer s H vs Q E hr h=> ?_)
 · obtain ⟨z,rfl,_⟩:=h
   rfl
 obtain ⟨z,rfl,hz,k⟩:=h
 refine ⟨_,a9 (ar (i:=1) scLR.nd rfl (Or.inl rfl) (bO PySem.F.plainAttrs_str PySem.F.slot_str_split PySem.F.type_str_split dB (pv 0) (a7 ad a8)))
  (a9 (ar (i:=2) scLR.nd rfl (Or.inl rfl) (bn (ah b9 (bc ci (aE av (pv 1) ac fun _ _=>rfl) bw (be ac)) ad (ao _)) (bc ci (aE av (pv 1) ac fun _ _=>rfl) (be ac) bw) (aE av (pv 1) ac fun _ _=>rfl)))
  (a9 (aS (PW.pt (bf (ah gn (aq am rfl B.le PySem.boot_len (a7 (pv 1) a8)) ac (ao _)) (bf (cw (bq (au gF hr rfl mF kF bF .nil aL (a7 (pv 2) a8)))) (bi (ah b9 (aE av (pv 1) ac fun _ _=>rfl) ad (ao _)))))) (ag (aA bb)) aw)
  (a9 (aS (ah b9 (aq am rfl B.le PySem.boot_len (a7 (pv 1) a8)) ac (ao _)) (ag (aA (bu (a7 (aJ bp rfl B.it PyProof.Rows.boot_int (a7 (aE av (pv 1) ac fun _ _=>rfl) a8)) (a7 ac a8))))) aw)
  (a9 (aS (PW.pt (bf (cw (bq (au gF hr rfl mF kF bF .nil aL (a7 (aE av (pv 1) ac fun _ _=>rfl) a8)))) (bf (ah eD (aJ bp rfl B.it PyProof.Rows.boot_int (a7 (aE av (pv 1) ac fun _ _=>rfl) a8)) ac (ao _)) (bi (ah b9 (aJ bp rfl B.it PyProof.Rows.boot_int (a7 (pv 2) a8)) ac (ao _)))))) (ag (aA bb)) aw)
  (a9 (ar (i:=3) scLR.nd rfl (Or.inl rfl) (aJ bp rfl B.it PyProof.Rows.boot_int (a7 (pv 2) a8)))
  (a9 (ar (i:=4) scLR.nd rfl (Or.inl rfl) (aJ bp rfl B.it PyProof.Rows.boot_int (a7 (aE av (pv 1) ac fun _ _=>rfl) a8)))
  (a9 (f8 PassesOwn.never (ah gn (pv 4) ac (ao _))
   (a9 (ar (i:=5) scLR.nd rfl (Or.inl rfl) (ak bZ (pv 3) (pv 4)))
   (a9 (ar (i:=3) scLR.nd rfl (Or.inl rfl) (pv 4)) (ag (ar (i:=4) scLR.nd rfl (Or.inl rfl) (pv 5))))))
  (ag (aA (bn (ah b9 (pv 3) ac (ao _)) (bu (a7 (aJ bp rfl B.it PyProof.Rows.boot_int (a7 (aE av (pv 1) ac fun _ _=>rfl) a8)) (a7 (aJ bp rfl B.it PyProof.Rows.boot_int (a7 (aE av (pv 1) ac fun _ _=>rfl) a8)) a8))) bb)))))))))),?_⟩
 have hL:(20000:Nat)≤sizeLine:=by decide +kernel
 have hcl:(cl z).length≤200:=by rw [aG];exact hz
 obtain ⟨c1,c2⟩:=j6 47 (cl z)
 have es:ba z (Str.ofString "/")=(cuts 47 (cl z)).map mkS:=by
  rw [←iD]
  rw [show (Str.ofString "/")=(⟨#[47]⟩:Str) by decide +kernel]
 refine ⟨_,rfl,rfl,z,_,rfl,rfl,by decide +kernel,by omega,by rw [es,uT];omega,fun L nL=> ?_⟩
 have s1:=ae (o:= .lst ((ba z (Str.ofString "/")).map V.str)) nL
 have hL1:(upd H L (.lst ((ba z (Str.ofString "/")).map V.str))) L=some (.lst ((ba z (Str.ofString "/")).map V.str)):=aa
 generalize upd H L (.lst ((ba z (Str.ofString "/")).map V.str))=H1 at*
 rw [es,List.map_map] at hL1
 refine aM ?_
 dsimp only
 have kE:frS z=(match cuts 47 (cl z) with
  | [h]=>if cnB (topL h)&& !(h== [45,48]) then some (valL h,1) else none
  | [h,b]=>if cnB (topL h)&& (!(h== [45,48])&& (cnB b&& (decide (2≤digitsVal b)&& (decide (digitsVal (topL h)≠0)&&decide (Nat.gcd (digitsVal (topL h)) (digitsVal b)=1))))) then some (valL h,((digitsVal b:Nat):Int)) else none
  |_=>none):=rfl
 obtain ⟨h,r,ec⟩:=cC 47 (cl z)
 rw [ec] at hL1 kE c1 c2
 have lh:h.length≤200:=vh (c2 h (by simp)) hcl
 have hh0:atI ((h::r).map (V.str ∘ mkS)) 0=some (.str (mkS h)):=aR (j:=0) rfl
 have no:∀H',Same H H'→frS z=none→Q .non H':=fun H' sH e=>by
  rw [e] at k
  exact k .non H' sH e5
 refine az (fun σ' H'=>H1=H'∧∃T:Str,σ'= [some (.str z),some (.ref L),some (.str T),none,none,none]∧cl T=topL h) ?_ fun nx hnx=> ?_
 rotate_left
 · refine ⟨_,rfl,L,_,0,_,rfl,rfl,SqL.of hL1,hh0,1,rfl,mkS h,rfl,by rw [bJ];omega,rfl,_,rfl,?_⟩
   by_cases e:h.head?=some 45
   · refine if_t (decide_eq_true ((p8 _).mpr e)) ?_
     refine ⟨_,rfl,L,_,0,_,rfl,rfl,SqL.of hL1,hh0,1,rfl,mkS h,rfl,by rw [bJ];omega,?_⟩
     refine hnx _ _ ⟨rfl,_,rfl,?_⟩
     rw [uO (z:=mkS h) e,dg]
     unfold topL
     rw [if_pos e]
   · refine if_f (decide_eq_false fun q=>e ((p8 _).mp q)) ?_
     refine ⟨_,rfl,L,_,0,_,rfl,rfl,SqL.of hL1,hh0,hnx _ _ ⟨rfl,_,rfl,?_⟩⟩
     rw [dg]
     unfold topL
     rw [if_neg e]
 rintro _ _ ⟨rfl,T,rfl,eT⟩
 have tT:T=mkS (topL h):=(mk_eq.mpr eT.symm).symm
 subst tT
 have lT:(mkS (topL h)).length≤200:=by rw [bJ];exact vh (jT h) lh
 have clT:cl (mkS (topL h))=topL h:=rfl
 have m0:decide (V.str (mkS h)=V.str (Str.ofString "-0"))=(h== [45,48]):=by
  rw [vD,decide_eq_true_eq,beq_iff_eq]
  constructor
  · intro q
    rw [mk_eq.mp (V.str.inj q),rO]
  · intro q
    rw [mk_eq.mpr (by rw [q,rO])]
 have ll:((h::r).map (V.str ∘ mkS)).length=r.length+1:=by rw [uT,uU]
 have bad:(cnB (topL h)=false∨(h== [45,48])=true)→frS z=none:=fun q=>by
  rw [kE]
  match r with
  | []=>rcases q with q|q<;>simp [q]
  | [b]=>rcases q with q|q<;>simp [q]
  |b::c::r=>rfl
 refine az (fun σ' H'=>H1=H'∧σ'= [some (.str z),some (.ref L),some (.str (mkS (topL h))),none,none,none]∧cnB (topL h)=true∧(h== [45,48])=false∧r.length≤1) ?_ fun nx hnx=> ?_
 rotate_left
 · refine ⟨_,rfl,L,_,rfl, .inl (SqL.of hL1),_,2,rfl,rfl,_,rfl,?_⟩
   rw [ll]
   by_cases h2:r.length≤1
   · refine if_f (decide_eq_false (by omega)) ?_
     refine ⟨_,rfl,mkS (topL h),rfl,lT,_,rfl,?_⟩
     rw [clT]
     cases hc:cnB (topL h) with
     |false=>exact iteT (no _ s1 (bad (.inl hc)))
     |true=>
      refine iteF ?_
      refine ⟨_,rfl,L,_,0,_,rfl,rfl,SqL.of hL1,hh0,rfl,_,rfl,?_⟩
      cases hm:(h== [45,48]) with
      |true=>exact if_t (m0.trans hm) (no _ s1 (bad (.inr hm)))
      |false=>exact if_f (m0.trans hm) (hnx _ _ ⟨rfl,rfl,hc,hm,h2⟩)
   · refine if_t (decide_eq_true (by omega)) (no _ s1 ?_)
     rw [kE]
     match r,h2 with
     | [],h2=>exact absurd (by simp) h2
     | [b],h2=>exact absurd (by simp) h2
     |b::c::r,_=>rfl
 rintro _ _ ⟨rfl,rfl,hc,hm,h2⟩
 refine ⟨_,rfl,L,_,rfl, .inl (SqL.of hL1),rfl,_,rfl,?_⟩
 rw [ll]
 have iv:=qM hc lh
 cases r with
 |nil=>
  refine if_t (decide_eq_true rfl) ?_
  refine ⟨_,rfl,L,_,0,_,rfl,rfl,SqL.of hL1,hh0,mkS h,_,rfl,iv,by rw [bJ];omega,by show 2≤sizeLine;decide,fun t nt=> ?_⟩
  have kA:frS z=if cnB (topL h)&& !(h== [45,48]) then some (valL h,1) else none:=kE
  rw [hc,hm] at kA
  rw [kA] at k
  exact k _ _ (s1.trans (ae nt)) (bv aa (.cons bK (.cons bK .nil)))
 |cons b r=>
 cases r with
 |cons c r=>simp at h2
 |nil=>
 refine if_f (decide_eq_false fun q=>by have q:=V.int.inj q;simp only [uU,vR] at q;omega) (eS ?_)
 dsimp only
 have lb:b.length≤200:=vh (c2 b (by simp)) hcl
 have hh1:atI ((h:: [b]).map (V.str ∘ mkS)) 1=some (.str (mkS b)):=aR (j:=1) rfl
 have kB:frS z=if cnB b&& (decide (2≤digitsVal b)&& (decide (digitsVal (topL h)≠0)&&decide (Nat.gcd (digitsVal (topL h)) (digitsVal b)=1))) then some (valL h,((digitsVal b:Nat):Int)) else none:=by
  have kA:frS z=if cnB (topL h)&& (!(h== [45,48])&& (cnB b&& (decide (2≤digitsVal b)&& (decide (digitsVal (topL h)≠0)&&decide (Nat.gcd (digitsVal (topL h)) (digitsVal b)=1))))) then some (valL h,((digitsVal b:Nat):Int)) else none:=kE
  rw [hc,hm] at kA
  exact kA
 have itT:=ij hc (vh (jT h) lh)
 refine az (fun σ' H'=>H1=H'∧σ'= [some (.str z),some (.ref L),some (.str (mkS (topL h))),none,none,none]∧cnB b=true∧2≤digitsVal b∧digitsVal (topL h)≠0) ?_ fun nx hnx=> ?_
 rotate_left
 · refine ⟨_,rfl,L,_,1,_,rfl,rfl,SqL.of hL1,hh1,mkS b,rfl,by rw [bJ];exact lb,_,rfl,?_⟩
   rw [dg]
   cases hb:cnB b with
   |false=>exact iteT (no _ s1 (by rw [kB,hb];rfl))
   |true=>
    refine iteF ?_
    refine ⟨_,rfl,L,_,1,_,rfl,rfl,SqL.of hL1,hh1,mkS b,_,rfl,ij hb lb,by rw [bJ];omega,_,2,rfl,rfl,_,rfl,?_⟩
    by_cases h3:2≤digitsVal b
    · refine if_f (decide_eq_false (by omega)) ?_
      refine ⟨_,rfl,mkS (topL h),_,rfl,itT,by omega,rfl,_,rfl,?_⟩
      by_cases h4:digitsVal (topL h)=0
      · refine if_t (decide_eq_true (by rw [h4];rfl)) (no _ s1 ?_)
        rw [kB,hb,decide_eq_false (p:=digitsVal (topL h)≠0) (by omega)]
        simp
      · exact if_f (decide_eq_false fun q=>by have q:=V.int.inj q;omega) (hnx _ _ ⟨rfl,rfl,hb,h3,h4⟩)
    · refine if_t (decide_eq_true (by omega)) (no _ s1 ?_)
      rw [kB,hb,decide_eq_false h3]
      rfl
 rintro _ _ ⟨rfl,rfl,hb,h3,h4⟩
 rw [hb,decide_eq_true h3,decide_eq_true (p:=digitsVal (topL h)≠0) h4,Bool.true_and,Bool.true_and,Bool.true_and] at kB
 have ib:=ij hb lb
 refine ⟨_,rfl,mkS (topL h),_,rfl,itT,by omega,?_⟩
 refine aM ?_
 dsimp only
 refine ⟨_,rfl,L,_,1,_,rfl,rfl,SqL.of hL1,hh1,mkS b,_,rfl,ib,by rw [bJ];omega,?_⟩
 refine aM ?_
 dsimp only
 refine eM (fun σ H'=>H1=H'∧∃(x y:Nat) (v:Option V),σ= [some (.str z),some (.ref L),some (.str (mkS (topL h))),some (.int x),some (.int y),v]∧Nat.gcd x y=Nat.gcd (digitsVal (topL h)) (digitsVal b)) (fun σ _=>match σ with| [_,_,_,_,some (.int y),_]=>y.natAbs|_=>0)
  ⟨rfl,_,_,none,rfl,rfl⟩ ?_ ?_
 · rintro σ H' ⟨rfl,x,y,v,rfl,e⟩
   refine ⟨_,rfl,_,0,rfl,rfl,_,rfl,?_⟩
   by_cases z0:(0:Int) < (y:Int)
   · refine if_t (decide_eq_true z0) ?_
     refine ⟨_,rfl,_,rfl,x,y,rfl,rfl,z0,_,rfl,_,rfl,?_⟩
     have hm:((x:Int)%(y:Int))=((x%y:Nat):Int):=by simp
     refine ⟨⟨rfl,y,x%y,some (.int ((x%y:Nat):Int)),?_,?_⟩,?_⟩
     · show [some (V.str z),some (V.ref L),some (V.str (mkS (topL h))),some (V.int (y:Int)),some (V.int ((x:Int)%(y:Int))),some (V.int ((x:Int)%(y:Int)))]=_
       rw [hm]
     · rw [←e,Nat.gcd_comm x y,Nat.gcd_rec y x,Nat.gcd_comm]
     · show ((x:Int)%(y:Int)).natAbs < (y:Int).natAbs
       rw [hm]
       have:=Nat.mod_lt x (show 0 < y by omega)
       omega
   · refine if_f (decide_eq_false z0) ?_
     have y0:y=0:=by omega
     subst y0
     rw [Nat.gcd_zero_right] at e
     refine ⟨_,rfl,rfl,_,rfl,?_⟩
     by_cases g1:x=1
     · refine if_t (decide_eq_true (by rw [g1];rfl)) ?_
       refine ⟨_,rfl,L,_,0,_,rfl,rfl,SqL.of hL1,hh0,mkS h,_,rfl,iv,by rw [bJ];omega,_,rfl,L,_,1,_,rfl,rfl,SqL.of hL1,hh1,mkS b,_,rfl,ib,by rw [bJ];omega,by show 2≤sizeLine;decide,fun t nt=> ?_⟩
       rw [kB,decide_eq_true (e.symm.trans g1)] at k
       exact k _ _ (s1.trans (ae nt)) (bv aa (.cons bK (.cons bK .nil)))
     · refine if_f (decide_eq_false fun q=>by have q:=V.int.inj q;omega) (no _ s1 ?_)
       rw [kB,decide_eq_false (by omega)]
       rfl
 · intro σ H' R R' hR h
   obtain ⟨v,e1,i,j,e2,e3,q,e4,h⟩:=h
   exact ⟨v,e1,i,j,e2,e3,q,e4,hR _ _ h⟩
end
open PySem PySem.NumText L2 Mth Dec Tre Wd Spl
noncomputable def wdF (z:Str):List Str:=(cuts 32 (cl z)).map mkS
theorem kZ:frS sEq=none:=by decide +kernel
theorem pP {os:List (Option Fr)} (h:none∈os):allS os=none:=by
 induction os with
 |nil=>cases h
 |cons o r ih=>
  cases o with
  |none=>rfl
  |some p=>
   rcases vd.mp h with q|q
   · cases q
   · simp [allS,ih q]
theorem lG {b e:Str} {ms:List Str} (h:∃z∈ms++ [e],frS z=none):caF b ms e=none:=by
 obtain ⟨z,m,q⟩:=h
 unfold caF
 rcases vH.mp m with m|m
 · rw [pP (by rw [←q];exact List.mem_map_of_mem m)]
 · rw [vo.mp m] at q
   rw [q]
   cases allS (ms.map frS)<;>rfl
def nEq (z:Str):Bool:= !decide (z=sEq)
theorem kY (ms:List Str) (h:ms.filter nEq≠ms):(ms.filter nEq).length < ms.length∧sEq∈ms:=by
 induction ms with
 |nil=>exact absurd rfl h
 |cons m ms ih=>
  have l:=List.length_filter_le nEq ms
  by_cases e:m=sEq
  · subst e
    rw [vO,show nEq sEq=false by decide +kernel]
    exact ⟨by simp only [Bool.false_eq_true,if_false,uU];omega,by simp⟩
  · have ne:nEq m=true:=by unfold nEq;rw [decide_eq_false e];rfl
    rw [vO,ne,if_pos rfl] at h ⊢
    have:=ih fun q=>h (by rw [q])
    exact ⟨by simp only [uU];omega,uX _ this.2⟩
theorem fu (ms:List Str) (e:Str):(ms++ [sEq,e]).filter nEq=(ms++ [e]).filter nEq:=by
 rw [List.filter_append,List.filter_append,vO,show nEq sEq=false by decide +kernel]
 rfl
theorem pd {ms:List Str} {e:Str}:((ms++ [sEq,e]).filter nEq).length=ms.length+1→(ms++ [sEq,e]).filter nEq=ms++ [e]:=fun h=>by
 rw [fu] at h ⊢
 refine Classical.byContradiction fun q=> ?_
 have:=(kY _ q).1
 rw [vc,vz] at this
 omega
theorem p9 {b:Str} {ms:List Str} {e:Str} (h:((ms++ [sEq,e]).filter nEq).length≠ms.length+1):caF b ms e=none:=by
 refine lG ⟨sEq,?_,kZ⟩
 rw [fu] at h
 exact (kY _ fun q=>h (by rw [q,vc,vz])).2
theorem mt {b:Str} {ms:List Str} {e:Str} (h:none∈((ms++ [sEq,e]).filter nEq).map frS):caF b ms e=none:=by
 rw [fu] at h
 obtain ⟨z,m,q⟩:=vL.mp h
 exact lG ⟨z,(vq.mp m).1,q⟩
theorem any_none {os:List (Option Fr)}:(os.map frO).any (fun u=>eqT u .non)=true↔none∈os:=by
 rw [List.any_eq_true]
 constructor
 · rintro ⟨u,m,q⟩
   obtain ⟨o,mo,rfl⟩:=vL.mp m
   cases o with
   |none=>exact mo
   |some p=>cases q
 · intro h
   exact ⟨_,List.mem_map_of_mem h,rfl⟩
theorem TrsAt.snoc_inv {H:Hp}:∀ {ts:List Tr} {t:Tr} {xs:List V},TrsAt H xs (ts++ [t])→∃ys y,xs=ys++ [y]∧TrsAt H ys ts∧TrAt H y t
 | [],t,xs,h=>by
  obtain ⟨v,r,e,h1,h2⟩:=h.inv
  unfold TrsAt at h2
  subst h2
  exact ⟨[],v,e, .nil,h1⟩
 |u::ts,t,xs,h=>by
  obtain ⟨v,r,e,h1,h2⟩:=h.inv
  obtain ⟨ys,y,e2,h3,h4⟩:=TrsAt.snoc_inv h2
  exact ⟨v::ys,y,by rw [e,e2];rfl, .cons h1 h3,h4⟩
theorem pD (ys:List V) (y:V):cutV (ys++ [y]) none (some (-1))=ys:=by
 unfold cutV HT.sIx
 dsimp only
 rw [if_pos (show (-1:Int) < 0 by decide),vc,vz,show (-1+((ys.length+1:Nat):Int)).toNat=ys.length by omega]
 simp
theorem pN (ys:List V) (y:V):atI (ys++ [y]) (-1)=some y:=by
 unfold atI ixN
 rw [vc,vz,if_neg (by omega),if_pos (by omega)]
 show (ys++ [y])[(-1+((ys.length+1:Nat):Int)).toNat]?=_
 rw [show (-1+((ys.length+1:Nat):Int)).toNat=ys.length by omega]
 simp
theorem mJ (zs:List Str) (a b:Str):cutV ((a::b::zs).map V.str) (some 2) none=zs.map V.str:=by
 unfold cutV HT.sIx
 dsimp only
 rw [if_neg (show¬(2:Int) < 0 by decide),uT,show min (2:Int).toNat (a::b::zs).length=2 by simp]
 simp only [uZ,List.drop_succ_cons,List.drop_zero,uU]
 rw [show zs.length+1+1 - 2=(zs.map V.str).length by rw [uT];omega,vU]
theorem jm {r:List Str} {q:Str} (h2:2≤r.length) (e:r[r.length - 2]?=some q):∃e',r=r.take (r.length - 2)++ [q,e']∧r.getLast?=some e':=by
 have h1:r=r.take (r.length - 2)++r.drop (r.length - 2):=(List.take_append_drop _ _).symm
 have hd:r.drop (r.length - 2)= [q,r[r.length - 1]]:=by
  obtain ⟨hi,ei⟩:=vg.mp e
  rw [vQ hi,ei,vQ (by omega)]
  congr 1
  rw [show r.length - 2+1+1=r.length by omega,List.drop_length]
  congr 1
  congr 1
  omega
 refine ⟨r[r.length - 1],by rw [hd] at h1;exact h1,?_⟩
 rw [List.getLast?_eq_getElem?,uV (by omega)]
theorem u8 {mp:List (Option Nat)} {wi:TI} {tc:TT} {te:TE} {u:TS} {Z:Ends} {i:Nat} {σ rest:L2.St} {H:Hp} (e:subS mp σ=none::rest) (h:wi σ H fun J H1=>∀D,H1 D=none→jP J D tc te rest (fun x H2=>bB i x σ H2 (u Z)) H1):
 tSeq (tAsg (di mp wi (bB 0) tc te) (bB i)) u Z σ H:=lO e h
section
variable {P:Program} {w:World} {K:PySem.W.Frag} {mg:Str→Option Value} {base:Heap}
def jp:Sp:=fun vs H Q _=>∃(z:Str),vs= [.str z]∧z.length≤200∧∀v H',Same H H'→TrAt H' v (etO (lnF (wdF z)))→Q v H'
theorem scLi:aN ["_law_line_here","_law_words","_law_numbers"] ["_law_line_here"] (af gi):=⟨rfl,rfl,rfl,by decide +kernel,rfl,by decide +kernel,by decide +kernel⟩
theorem eO {z:Str} (hz:z.length≤200):(wdF z).length≤201∧∀y∈wdF z,y.length≤200:=by
 obtain ⟨c1,c2⟩:=j6 32 (cl z)
 rw [aG] at c1 c2
 unfold wdF
 refine ⟨by rw [uT];omega,fun y m=> ?_⟩
 obtain ⟨x,mx,rfl⟩:=vL.mp m
 rw [bJ]
 exact vh (c2 x mx) hz
theorem eW (z:Str):ba z (Str.ofString " ")=wdF z:=by
 unfold wdF
 rw [←iD]
 rw [show (Str.ofString " ")=(⟨#[32]⟩:Str) by decide +kernel]
theorem qB {f fN fR:Addr} {fd dN dR:FuncData} (F:Fun K "_law_line" "_law_line" gi f fd) (B:Blt mg)
 (gN:FnOk P w K mg base CX0 1 fN dN ["_law_word"] spLN) (kN:PySem.W.keepIn K (.ref fN)=true) (bN:Binds K dN ["_law_word"] []) (mN:mg "_law_is_name"=some (.ref fN))
 (gR:FnOk P w K mg base CX0 2 fR dR ["_law_word"] nP) (kR:PySem.W.keepIn K (.ref fR)=true) (bR:Binds K dR ["_law_word"] []) (mR:mg "_law_fraction"=some (.ref fR)):FnOk P w K mg base CX0 3 f fd ["_law_line_here"] jp:=by
 refine F.ok scLi (fun vs H Q E h=> ?_) (fun cdv A outer s H vs Q E hr h=> ?_)
 · obtain ⟨z,rfl,_⟩:=h
   rfl
 obtain ⟨z,rfl,hz,k⟩:=h
 have hr1:Room 1 _:=hr.mono (by decide)
 have hun:=hr.units
 have hu50:_+50 < cLine:=vA (vI (by decide) _) hun
 refine ⟨_,a9 (ar (i:=1) scLi.nd rfl (Or.inl rfl) (bO PySem.F.plainAttrs_str PySem.F.slot_str_split PySem.F.type_str_split dB (pv 0) (a7 ad a8)))
  (a9 (aS (PW.pt (bf (ah eD (aq am rfl B.le PySem.boot_len (a7 (pv 1) a8)) ac (ao _)) (bi (cw (bq (au gN hr1 rfl mN kN bN .nil aL (a7 (aE av (pv 1) ac fun _ _=>rfl) a8))))))) (ag (aA bb)) aw)
  (a9 (aS (ah b9 (aE av (pv 1) ac fun _ _=>rfl) ad (ao _)) (ag (aA (bn (ah b9 (aq am rfl B.le PySem.boot_len (a7 (pv 1) a8)) ac (ao _)) (bu (a7 ac (a7 (aE av (pv 1) ac fun _ _=>rfl) (a7 eA a8)))) bb))) aw)
  (a9 (k7 (NC:= ["_law_word"]) (mp:= [none]) (i:=2) rfl scLi.nd rfl rfl rfl (i4 (bc hW (pv 1) (be ac) bw)) (fun _ _ _ _ _=>aY (i:=0) (by simp) rfl (Or.inl rfl)) (fun _ _ _ _ _=>qg (ah cF (pv 0) ad (ao _))) (fun _ _ _ _ _=>au gR hr rfl mR kR bR .nil aL (a7 (pv 0) a8)))
  (a9 (aS (PW.pt (bf (ah (or hu50) bb (pv 2) (by with_unfolding_all rfl)) (bi (PW.pt (eZ (ah b9 (aE av (pv 1) ac fun _ _=>rfl) ad (ao _)) (eK (PW.pt (bf (ah cF (aq am rfl B.le PySem.boot_len (a7 (pv 1) a8)) ac (ao _)) (bi (ah cF (aq am rfl B.le PySem.boot_len (a7 (pv 2) a8)) ac (ao _))))))))))) (ag (aA bb)) aw)
  (a9 (aS (ah b9 (aE av (pv 1) ac fun _ _=>rfl) ad (ao _)) (ag (aA (bu (a7 ac (a7 (aE av (pv 1) ac fun _ _=>rfl) (a7 (aE av (pv 2) ac fun _ _=>rfl) a8)))))) aw)
  (a9 (aS (PW.pt (bf (ah cF (aE av (pv 1) ac fun _ _=>rfl) ad (ao _)) (bf (ah eD (aq am rfl B.le PySem.boot_len (a7 (pv 1) a8)) ac (ao _)) (bf (ah gn (aq am rfl B.le PySem.boot_len (a7 (pv 1) a8)) ac (ao _)) (bf (ah cF (aE av (pv 1) (dm cv ac) fun _ _=>rfl) ad (ao _)) (bi (ah cF (aq am rfl B.le PySem.boot_len (a7 (pv 2) a8)) (ak sQ (aq am rfl B.le PySem.boot_len (a7 (pv 1) a8)) ac) (ao _)))))))) (ag (aA bb)) aw)
  (ag (aA (bu (a7 ac (a7 (bu (a7 (aE av (pv 1) ac fun _ _=>rfl) (a7 (aJ d7 rfl B.tu PyProof.Rows.boot_tuple (a7 (bc hW (pv 2) bw (be (dm cv ac))) a8)) a8))) (a7 (aE av (pv 2) (dm cv ac) fun _ _=>rfl) a8)))))))))))),?_⟩
 have hL:(20000:Nat)≤sizeLine:=by decide +kernel
 obtain ⟨w1,w2⟩:=eO hz
 have es:=eW z
 refine ⟨_,rfl,rfl,z,_,rfl,rfl,by decide +kernel,by omega,by rw [es];omega,fun L nL=> ?_⟩
 have s1:=ae (o:= .lst ((ba z (Str.ofString " ")).map V.str)) nL
 have hL1:(upd H L (.lst ((ba z (Str.ofString " ")).map V.str))) L=some (.lst ((ba z (Str.ofString " ")).map V.str)):=aa
 generalize upd H L (.lst ((ba z (Str.ofString " ")).map V.str))=H1 at*
 rw [es] at hL1
 refine aM ?_
 dsimp only
 generalize wdF z=zs at*
 have no:∀H',Same H H'→lnF zs=none→Q .non H':=fun H' sH e=>by
  rw [e] at k
  exact k .non H' sH e5
 have eqS:∀x y:Str,x=y→V.str x=V.str y:=fun x y e=>by rw [e]
 refine ⟨_,rfl,L,_,rfl, .inl (SqL.of hL1),_,2,rfl,rfl,_,rfl,?_⟩
 rw [uT]
 cases zs with
 |nil=>exact if_t (decide_eq_true (by simp)) (no _ s1 rfl)
 |cons a zs=>
 cases zs with
 |nil=>exact if_t (decide_eq_true (by simp)) (no _ s1 rfl)
 |cons b r=>
 refine if_f (decide_eq_false (by simp only [uU];omega)) ?_
 have a0:atI ((a::b::r).map V.str) 0=some (.str a):=aR (j:=0) rfl
 have a1:atI ((a::b::r).map V.str) 1=some (.str b):=aR (j:=1) rfl
 have lr:((a::b::r).length:Int)=(r.length:Int)+2:=by simp only [uU];omega
 refine ⟨_,rfl,L,_,1,_,rfl,rfl,SqL.of hL1,a1,b,rfl,w2 b (by simp),_,rfl,?_⟩
 cases hb:nmB b with
 |false=>exact iteT (no _ s1 (by simp only [lnF,hb];rfl))
 |true=>
 refine iteF (eS ?_)
 dsimp only
 have k0:lnF (a::b::r)=(if a=dl then (if r.isEmpty then some (.fl b) else none)
  else if a=cO then (match r with| [c]=>(frS c).map (.nm b)|_=>none)
  else if a=eg∧3≤r.length∧r.length≤5∧r[r.length - 2]?=some sEq then caF b (r.take (r.length - 2)) (r.getLastD a)
  else none):=by
  simp only [lnF,hb,if_true] <;> rfl
 refine ⟨_,rfl,L,_,0,_,rfl,rfl,SqL.of hL1,a0,rfl,_,rfl,?_⟩
 by_cases eF:a=dl
 · refine if_t (decide_eq_true (eqS _ _ eF)) ?_
   rw [if_pos eF] at k0
   refine ⟨_,rfl,L,_,rfl, .inl (SqL.of hL1),rfl,_,rfl,?_⟩
   rw [uT,lr]
   cases r with
   |nil=>
    refine if_t (decide_eq_true rfl) ?_
    refine ⟨_,rfl,L,_,1,_,rfl,rfl,SqL.of hL1,a1,by show 3≤sizeLine;decide,fun t nt=> ?_⟩
    rw [k0] at k
    exact k _ _ (s1.trans (ae nt)) (bv aa (.cons bK (.cons cD (.cons pM .nil))))
   |cons c r=>
    refine if_f (decide_eq_false fun q=> ?_) (no _ s1 k0)
    have q:=V.int.inj q
    simp only [uU] at q
    omega
 refine if_f (decide_eq_false fun q=>eF (V.str.inj q)) (eS ?_)
 dsimp only
 rw [if_neg eF] at k0
 refine u8 rfl ?_
 refine ⟨_,rfl,2,rfl,L,_,rfl,SqL.of hL1,fun p np=> ?_⟩
 rw [mJ]
 have s2:=s1.trans (ae (o:= .lst (r.map V.str)) np)
 have hL2:=(ae (o:= .lst (r.map V.str)) np) _ _ hL1
 have hp2:(upd H1 p (.lst (r.map V.str))) p=some (.lst (r.map V.str)):=aa
 generalize upd H1 p (.lst (r.map V.str))=H2 at*
 refine ⟨p,rfl,⟨_,SqL.of hp2⟩,fun D nD=> ?_⟩
 refine jI (xs:=r.map V.str) (fun i acc H'=>Same H2 H'∧H' D=some (.lst acc)∧TrsAt H' acc (((r.take i).filter nEq).map fun z=>frO (frS z))∧acc.length≤i) ⟨ae nD,aa,by rw [List.take_zero];exact .nil,by simp⟩ (fun i acc H' q=>SqL.of (q.1 _ _ hp2)) ?_ ?_
 · rintro i x acc H3 hi ex ⟨s3,h3,t3,la⟩
   rw [vn] at ex
   obtain ⟨y,ey,rfl⟩:=vK.mp ex
   have my:y∈r:=vi ey
   have ly:=w2 y (uX _ (uX _ my))
   rw [uT] at hi
   have r1:r.length≤201:=by simp only [uU] at w1;omega
   have tk:r.take (i+1)=r.take i++ [y]:=by rw [List.take_add_one,ey];rfl
   refine ⟨_,rfl,rfl,_,rfl,?_⟩
   by_cases e:y=sEq
   · refine if_f (neF (eqS _ _ e)) ?_
     refine CompS.mk (by rw [uT];exact hi) ⟨s3,h3,?_,by omega⟩
     rw [tk,List.filter_append,e]
     rw [show [sEq].filter nEq= [] by decide +kernel,vB]
     exact t3
   · refine if_t (neT (sne e)) ?_
     refine ⟨_,rfl,y,rfl,ly,fun v H4 s4 hv=> ?_⟩
     refine CompN.mk (by rw [uT];exact hi) (by omega) (s4 _ _ h3) ⟨b8 nD (s3.trans s4),aa,?_,by rw [vc,vz];omega⟩
     have kd:=Kd.upd (ys:=acc++ [v]) (s4 _ _ h3)
     have ne: [y].filter nEq= [y]:=by rw [vO,show nEq y=true by unfold nEq;rw [decide_eq_false e];rfl];rfl
     rw [tk,List.filter_append,ne,vp]
     exact TrsAt.app (.cons (hv.mono kd) .nil) ((t3.mono (Kd.of_same s4)).mono kd)
 rintro xs H3 ⟨s3,hD3,hT3,_⟩
 rw [uT,vU] at hT3
 have s23:=s2.trans s3
 have hL3:=s3 _ _ hL2
 refine aM ?_
 try dsimp only
 have xl:=hT3.len
 rw [uT] at xl
 have e2:((r.filter nEq).map fun z=>frO (frS z))=((r.filter nEq).map frS).map frO:=by rw [List.map_map];rfl
 have dep:∀u∈(r.filter nEq).map fun z=>frO (frS z),u.depth≤40:=fun u m=>by
  obtain ⟨z,_,rfl⟩:=vL.mp m
  exact kP _
 have call:a=eg→3≤r.length→r.length≤5→r[r.length - 2]?=some sEq→∃ms e,r=ms++ [sEq,e]∧ms.length+2=r.length∧lnF (a::b::r)=caF b ms e:=fun ec h3 h5 hq=>by
  have nN:¬a=cO:=by rw [ec];decide +kernel
  rw [if_neg nN,if_pos ⟨ec,h3,h5,hq⟩] at k0
  obtain ⟨e,e1,e2⟩:=jm (by omega) hq
  refine ⟨_,e,e1,by rw [vx];omega,?_⟩
  rw [k0,List.getLastD_eq_getLast?,e2]
  rfl
 have nocall:¬a=cO→¬(a=eg∧3≤r.length∧r.length≤5∧r[r.length - 2]?=some sEq)→lnF (a::b::r)=none:=fun h1 h2=>by rw [k0,if_neg h1,if_neg h2]
 refine az (fun σ' H'=>H3=H'∧σ'= [some (.str z),some (.ref L),some (.ref D)]∧(none∉(r.filter nEq).map frS)∧(a=cO→∃c,r= [c]∧c≠sEq)) ?_ fun nx hnx=> ?_
 rotate_left
 · refine ⟨_,rfl,D,xs,_, .non,rfl, .inl hD3,hT3,e5,dep,trivial,_,rfl,?_⟩
   rw [e2]
   by_cases hn:none∈(r.filter nEq).map frS
   · refine if_t (by rw [any_none.mpr hn];rfl) (no _ s23 ?_)
     by_cases en:a=cO
     · rw [k0,if_pos en]
       match r,hn with
       | [],hn=>rfl
       | [c],hn=>
        obtain ⟨y,my,q⟩:=vL.mp hn
        have:=vo.mp (vq.mp my).1
        subst this
        show (frS y).map _=none
        rw [q]
        rfl
       |c::c'::r,hn=>rfl
     · by_cases hc:a=eg∧3≤r.length∧r.length≤5∧r[r.length - 2]?=some sEq
       · obtain ⟨ms,e,er,_,q⟩:=call hc.1 hc.2.1 hc.2.2.1 hc.2.2.2
         rw [q]
         rw [er] at hn
         exact mt hn
       · exact nocall en hc
   · refine if_f (by rw [vT.mpr fun q=>hn (any_none.mp q)];rfl) ?_
     refine ⟨_,rfl,L,_,0,_,rfl,rfl,SqL.of hL3,a0,rfl,_,rfl,?_⟩
     by_cases en:a=cO
     · refine if_t (decide_eq_true (eqS _ _ en)) ?_
       rw [if_pos en] at k0
       refine ⟨_,rfl,L,_,rfl, .inl (SqL.of hL3),rfl,_,rfl,?_⟩
       rw [uT,lr]
       match r,k0,xl,hnx,hn with
       | [],k0,_,_,_=>exact if_t (neT fun q=>by have q:=V.int.inj q;simp at q) (no _ s23 k0)
       |c::c'::r,k0,_,_,_=>exact if_t (neT fun q=>by have q:=V.int.inj q;simp only [uU] at q;omega) (no _ s23 k0)
       | [c],k0,xl,hnx,hn=>
        refine if_f (neF rfl) ?_
        refine ⟨_,rfl,D,_,rfl, .inl (SqL.of hD3),rfl,_,rfl,?_⟩
        by_cases ec:c=sEq
        · refine if_t (neT fun q=> ?_) (no _ s23 ?_)
          · have q:=V.int.inj q
            rw [ec,show [sEq].filter nEq= [] by decide +kernel] at xl
            rw [xl] at q
            simp at q
          · rw [k0,ec]
            show (frS sEq).map _=none
            rw [kZ]
            rfl
        · refine if_f (neF ?_) (hnx _ _ ⟨rfl,rfl,hn,fun _=>⟨c,rfl,ec⟩⟩)
          rw [xl,vO,show nEq c=true by unfold nEq;rw [decide_eq_false ec];rfl]
          rfl
     · exact if_f (decide_eq_false fun q=>en (V.str.inj q)) (hnx _ _ ⟨rfl,rfl,hn,fun q=>absurd q en⟩)
 rintro _ _ ⟨rfl,rfl,hn,hname⟩
 refine ⟨_,rfl,L,_,0,_,rfl,rfl,SqL.of hL3,a0,rfl,_,rfl,?_⟩
 by_cases en:a=cO
 · refine if_t (decide_eq_true (eqS _ _ en)) ?_
   obtain ⟨c,rfl,ec⟩:=hname en
   rw [if_pos en] at k0
   have ef: [c].filter nEq= [c]:=by rw [vO,show nEq c=true by unfold nEq;rw [decide_eq_false ec];rfl];rfl
   rw [ef] at hT3 hn
   obtain ⟨x,xr,rfl,hx,_⟩:=hT3.inv
   cases eq:frS c with
   |none=>exact absurd (by simp [eq]) hn
   |some q=>
    have hx:TrAt H3 x (frO (frS c)):=hx
    rw [eq] at hx
    refine ⟨_,rfl,L,_,1,_,rfl,rfl,SqL.of hL3,a1,_,rfl,D,_,0,x,rfl,rfl,SqL.of hD3,aR (j:=0) rfl,by show 3≤sizeLine;decide,fun t nt=> ?_⟩
    have k1:lnF [a,b,c]=some (.nm b q):=by
     rw [k0]
     show (frS c).map _=_
     rw [eq]
     rfl
    rw [k1] at k
    have s4:=ae (o:= .tup [V.int 1,V.str b,x]) nt
    exact k _ _ (s23.trans s4) (bv aa (.cons bK (.cons cD (.cons (hx.mono (Kd.of_same s4)) .nil))))
 refine if_f (decide_eq_false fun q=>en (V.str.inj q)) (eS ?_)
 dsimp only
 refine az (fun σ' H'=>H3=H'∧σ'= [some (.str z),some (.ref L),some (.ref D)]∧∃ms e,r.filter nEq=ms++ [e]∧lnF (a::b::r)=caF b ms e) ?_ fun nx hnx=> ?_
 rotate_left
 · refine ⟨_,rfl,L,_,0,_,rfl,rfl,SqL.of hL3,a0,rfl,_,rfl,?_⟩
   by_cases ec:a=eg
   · refine if_f (neF (eqS _ _ ec)) ?_
     refine ⟨_,rfl,L,_,rfl, .inl (SqL.of hL3),_,5,rfl,rfl,_,rfl,?_⟩
     rw [uT,lr]
     by_cases h3:3≤r.length
     · refine if_f (decide_eq_false (by omega)) ?_
       refine ⟨_,rfl,L,_,rfl, .inl (SqL.of hL3),_,7,rfl,rfl,_,rfl,?_⟩
       rw [uT,lr]
       by_cases h5:r.length≤5
       · refine if_f (decide_eq_false (by omega)) ?_
         obtain ⟨q,eq1,eq2⟩:=je (zs:=a::b::r) (by simp only [uU];omega)
         have eq3:r[r.length - 2]?=some q:=by
          rw [←eq1]
          simp only [uU]
          rw [show r.length+1+1 - 2=(r.length - 2)+1+1 by omega]
          rfl
         refine ⟨_,rfl,2,rfl,L,_,_,_,rfl,rfl,SqL.of hL3,eq2,rfl,_,rfl,?_⟩
         by_cases hq:q=sEq
         · refine if_f (neF (eqS _ _ hq)) ?_
           obtain ⟨ms,e,er,lm,kq⟩:=call ec h3 h5 (by rw [eq3,hq])
           refine ⟨_,rfl,D,_,rfl, .inl (SqL.of hD3),_,rfl,L,_,rfl, .inl (SqL.of hL3),_,3,rfl,rfl,rfl,_,rfl,?_⟩
           rw [uT,lr,xl]
           by_cases hl:(r.filter nEq).length=ms.length+1
           · refine if_f (neF ?_) (hnx _ _ ⟨rfl,rfl,ms,e,?_,kq⟩)
             · rw [hl,←lm]
               show V.int _=V.int _
               congr 1
               omega
             · rw [er] at hl ⊢
               exact pd hl
           · refine if_t (neT fun q=>hl ?_) (no _ s23 ?_)
             · have q:((r.filter nEq).length:Int)=(r.length:Int)+2 - 3:=V.int.inj q
               omega
             · rw [kq]
               rw [er] at hl
               exact p9 hl
         · exact if_t (neT (sne hq)) (no _ s23 (nocall en fun z=>hq (by have:=z.2.2.2;rw [eq3] at this;exact vk this)))
       · exact if_t (decide_eq_true (by omega)) (no _ s23 (nocall en fun z=>h5 z.2.2.1))
     · exact if_t (decide_eq_true (by omega)) (no _ s23 (nocall en fun z=>h3 z.2.1))
   · exact if_t (neT (sne ec)) (no _ s23 (nocall en fun z=>ec z.1))
 rintro _ _ ⟨rfl,rfl,ms,e,ef,kq⟩
 rw [ef] at hn
 have hT4:TrsAt H3 xs ((ms.map fun z=>frO (frS z))++ [frO (frS e)]):=by
  rw [ef,vp] at hT3
  exact hT3
 obtain ⟨ys,y,rfl,hY,hy⟩:=TrsAt.snoc_inv hT4
 cases eq:frS e with
 |none=>exact absurd (by rw [vp];simp [eq]) hn
 |some q=>
 cases ea:allS (ms.map frS) with
 |none=>
  have:(ms.map frS).map frO |>.any (fun u=>eqT u .non):=allS_none.mpr ea
  exact absurd (by rw [vp];exact List.mem_append_left _ (any_none.mp this)) hn
 |some ps=>
 have k1:lnF (a::b::r)=some (.ca b ps q):=by
  rw [kq]
  unfold caF
  rw [ea,eq]
 rw [k1] at k
 rw [eq] at hy
 have e3:(ms.map fun z=>frO (frS z))=ps.map frT:=by
  rw [←e9 ea,List.map_map]
  rfl
 rw [e3] at hY
 refine ⟨_,rfl,L,_,1,_,rfl,rfl,SqL.of hL3,a1,_,rfl,1,rfl,_,rfl,D,_,rfl,SqL.of hD3,fun t0 nt0=> ?_⟩
 rw [pD]
 have s4:=ae (o:= .lst ys) nt0
 have h4:(upd H3 t0 (.lst ys)) t0=some (.lst ys):=aa
 generalize upd H3 t0 (.lst ys)=H4 at*
 refine ⟨t0,ys,rfl, .inl ⟨SqL.of h4,fun t nt=> ?_⟩⟩
 have s5:=ae (o:= .tup ys) nt
 have h5:(upd H4 t (.tup ys)) t=some (.tup ys):=aa
 generalize upd H4 t (.tup ys)=H5 at*
 refine ⟨by show 2≤sizeLine;decide,fun t2 nt2=> ?_⟩
 have s6:=ae (o:= .tup [V.str b,V.ref t]) nt2
 have h6:(upd H5 t2 (.tup [V.str b,V.ref t])) t2=some (.tup [V.str b,V.ref t]):=aa
 generalize upd H5 t2 (.tup [V.str b,V.ref t])=H6 at*
 have hD6:=(s4.trans (s5.trans s6)) _ _ hD3
 refine ⟨_,rfl,1,rfl,D,_,_,y,rfl,rfl,SqL.of hD6,pN ys y,by show 3≤sizeLine;decide,fun t3 nt3=> ?_⟩
 have s7:=ae (o:= .tup [V.int 2,V.ref t2,y]) nt3
 have s47:=s4.trans (s5.trans (s6.trans s7))
 refine k _ _ (s23.trans s47) (bv aa (.cons bK (.cons ?_ (.cons (hy.mono (Kd.of_same s47)) .nil))))
 refine bv (s7 _ _ h6) (.cons cD (.cons (bv ((s6.trans s7) _ _ h5) ?_) .nil))
 exact hY.mono (Kd.of_same s47)
end
end K85
namespace Tre
open PySem PySem.Spec PyProof.Rows L2
section
variable {X:Cx}
theorem oX {pins:List (Addr×Obj)} {σ:L2.St} {H:Hp} {s:Shared} {A:Around} {ts us:List Tr} {vs ws:List V} {as bs:List Value} (I:Inv X pins σ H s) (hu:A.units+42 < cLine) (h1:TrsAt H vs ts) (h2:TrsAt H ws us) (hp:Trs.pure ts∨Trs.pure us) (hd:Trs.depth ts≤40) (r1:Vals vs as) (r2:Vals ws bs)
 (j:Nat) (g1:j < as.toArray.size) (g2:j < bs.toArray.size):SeqAt.EqAt A s as.toArray[j] bs.toArray[j] (eqJ ts us j):=by
 have l1:=h1.len
 have l2:=h2.len
 have l3:=r1.length
 have l4:=r2.length
 have h1':j < as.length:=by simpa using g1
 have h2':j < bs.length:=by simpa using g2
 have t1:ts[j]?=some (ts[j]'(by omega)):=uV _
 have t2:us[j]?=some (us[j]'(by omega)):=uV _
 obtain ⟨v,e1,a1⟩:=h1.get t1
 obtain ⟨w,e2,a2⟩:=h2.get t2
 obtain ⟨u1,e3,q1⟩:=r1.get e1
 obtain ⟨u2,e4,q2⟩:=r2.get e2
 have z1:as.toArray[j]=u1:=by rw [List.getElem_toArray];rw [uV h1'] at e3;exact vk e3
 have z2:bs.toArray[j]=u2:=by rw [List.getElem_toArray];rw [uV h2'] at e4;exact vk e4
 rw [z1,z2,ph t1 t2]
 refine gZ I 40 ?_ ?_ a1 a2 q1 q2 (by omega)
 · have:=de (vi t1)
   omega
 · rcases hp with hp|hp
   · exact .inl (cP hp (vi t1))
   · exact .inr (cP hp (vi t2))
end
end Tre
namespace Dj
open PySem PySem.Spec PySem.W PyProof.Rows L2
section
variable {prog:Program} {w:World} {K:Type} [DecidableEq K] {knd:HeapKind prog w K} {A:Around} {E:Value→Shared→Prop} {s:Shared}
def Sm (prog:Program) (w:World) (A:Around) (s:Shared) (v y:Value):Prop:=∀(E:Value→Shared→Prop) (Q:Bool→Shared→Prop),Q true s→wpAny (model prog w) A (eqBool v y) Q E s
theorem qt {nm:String} {a b:Addr} {xa xb:List (K×Addr×Value)} {Q:Bool→Shared→Prop} (ha:(a==sysModules)=false) (hb:(b==sysModules)=false) (hu:knd.room A)
 (da:s.heap.DictOfH knd a xa) (db:s.heap.DictOfH knd b xb) (hl:xa.length=xb.length) (hit:∀x∈xa,∃(j:Nat) (p:Addr×Value),xb[j]?=some (x.1,p)∧Sm prog w A s x.2.2 p.2) (h:Q true s):
 wpAny (model prog w) A (Builtin.Dict.samePairs nm a b) Q E s:=by
 obtain ⟨oa,ea,pa,ga,_,fa,la,ka,na⟩:=da
 obtain ⟨ob,eb,pb,gb,_,fb,lb,kb,nb⟩:=db
 have za:ea.size=xa.length:=by have:=congrArg List.length la;simpa using this
 have zb:eb.size=xb.length:=by have:=congrArg List.length lb;simpa using this
 have zz:ea.size=eb.size:=by omega
 unfold Builtin.Dict.samePairs Builtin.Dict.showsAll
 rw [if_neg (by rw [ha];decide),if_neg (by rw [hb];decide)]
 refine wpAny_bind (wpAny_pure (wpAny_bind (wpAny_pure ?_)))
 refine wpAny_bind (wpAny_dictEntries ga fa ?_)
 refine wpAny_bind (wpAny_dictEntries gb fb ?_)
 rw [if_neg (by rw [zz];simp)]
 refine wpAny_bind (wpAny_dictEpoch ga fa ?_)
 refine wpAny_bind ?_
 rw [Std.Legacy.Range.forIn_eq_forIn_range']
 simp only [Std.Legacy.Range.size,Nat.sub_zero,Nat.add_sub_cancel,Nat.div_one]
 refine wpAny_forIn_list _ (fun rest q s'=>s'=s∧q=(none,())∧∃i,rest=List.range' i (ea.size - i)) _ ?_ ?_ _ _ ⟨rfl,rfl,0,by simp⟩
 · rintro i rest q s' ⟨rfl,rfl,j,er⟩
   have hj:j < ea.size:=by
    rcases Nat.lt_or_ge j ea.size with z|z
    · exact z
    · rw [Nat.sub_eq_zero_of_le z] at er;simp at er
   obtain ⟨rfl,er⟩:i=j∧rest=List.range' (j+1) (ea.size - (j+1)):=by
    rw [show ea.size - j=(ea.size - (j+1))+1 by omega,List.range'_succ] at er
    injection er with e1 e2
    exact ⟨e1,e2⟩
   refine wpAny_bind (wpAny_dictEntries ga fa ?_)
   have hx:i < xa.length:=by omega
   have ei:ea[i]?=some (entryOfKey knd xa[i]):=by
    rw [←vE,la,vn,uV hx]
    rfl
   rw [ei]
   have mi:xa[i]∈xa:=List.getElem_mem hx
   obtain ⟨m,p,em,hs⟩:=hit _ mi
   show wpAny _ _ (holding [Value.ref xa[i].2.1,xa[i].2.2] _ >>=_) _ _ _
   refine wpAny_bind (wpAny_holding (wpAny_bind (wpAny_dictFind_heap hu (ka _ mi) gb fb lb kb nb (fun no=>absurd em (no m p)) fun m' p' em'=> ?_)))
   have e1:p'=p:=by
    obtain ⟨h1,e1⟩:=vg.mp em
    obtain ⟨h2,e2⟩:=vg.mp em'
    have:m'=m:=by
     refine (List.getElem_inj (h₀:=by rw [uT];exact h2) (h₁:=by rw [uT];exact h1) nb).mp ?_
     rw [List.getElem_map,List.getElem_map,e1,e2]
    subst this
    rw [e1] at e2
    injection e2 with _ e2
    exact e2.symm
   subst e1
   refine wpAny_bind (wpAny_dictEntries gb fb ?_)
   have em2:eb[m']?=some (entryOfKey knd (xa[i].1,p')):=by
    rw [←vE,lb,vn,em']
    rfl
   rw [em2]
   refine wpAny_holding (hs _ _ ?_)
   show wpAny _ _ (if (!true)=true then _ else _) _ _ _
   rw [if_neg (by decide)]
   refine wpAny_bind (wpAny_dictEpoch ga fa ?_)
   rw [if_neg (by simp)]
   exact wpAny_pure ⟨rfl,rfl,i+1,er⟩
 · rintro q s' ⟨rfl,rfl,i,er⟩
   exact wpAny_pure h
theorem jX {a b:Addr} (h:∀(E:Value→Shared→Prop) (Q:Value→Shared→Prop),Q (.bool true) s→wpAny (model prog w) A (richCompare .Eq (.ref a) (.ref b)) Q E s):Sm prog w A s (.ref a) (.ref b):=by
 intro E Q q
 by_cases e:a=b
 · subst e
   exact SeqAt.EqAt.same _ prog w E Q q
 · unfold eqBool
   refine wpAny_holding (wpAny_ite_split (fun z=>absurd (by have:=eq_of_beq z;injection this) e) fun _=> ?_)
   exact wpAny_bind (h E _ (wpAny_truthy_bool q))
theorem k4 {a b:Addr} {Q:Value→Shared→Prop} (ta:s.TypeIs (.ref a) "dict") (tb:s.TypeIs (.ref b) "dict") (hu:A.units < cLine)
 (hp:∀Q:Bool→Shared→Prop,Q true s→wpAny (model prog w) A.in1 (Builtin.Dict.samePairs "dict.__eq__" a b) Q E s) (h:Q (.bool true) s):wpAny (model prog w) A (richCompare .Eq (.ref a) (.ref b)) Q E s:=by
 refine wpAny_richCompare_same_room (op:= .Eq) ta tb PySem.F.slot_dict_eq (wpAny_call_entry PySem.F.slot_dict_eq ta PySem.F.entry_dict_eq ?_ (PySem.F.args_dict_eq_2 _ _)) hu
 show wpAny _ _ (Builtin.Dict.dictSlotArgs "__eq__" ⟨[.ref a, .ref b],[]⟩ >>=_) _ _ s
 refine wpAny_bind ?_
 unfold Builtin.Dict.dictSlotArgs
 refine wpAny_bind (wpAny_notOrdered_dict ta ?_)
 refine wpAny_pure (wpAny_bind (wpAny_isInstance (T:="dict") tb PySem.F.sub_dict_dict ?_))
 simp only [Bool.not_true,Bool.false_eq_true,if_false]
 refine wpAny_bind (wpAny_pure (wpAny_bind (wpAny_pure (wpAny_bind (hp _ ?_)))))
 exact wpAny_pure ⟨_,rfl,(fun z=>nomatch z),by simpa using h⟩
theorem qd {a b:Addr} {xs ys:Array Value} {Q:Value→Shared→Prop} (ta:s.heap.IsTuple a xs) (tb:s.heap.IsTuple b ys) (hu:A.units < cLine) (hz:xs.size=ys.size)
 (he:∀p∈xs.toList.zip ys.toList,Sm prog w A.in1 s p.1 p.2) (h:Q (.bool true) s):wpAny (model prog w) A (richCompare .Eq (.ref a) (.ref b)) Q E s:=by
 obtain ⟨⟨ca,da,va,sa⟩,ga,ea,na,fa⟩:=ta
 obtain ⟨⟨cb,db,vb,sb⟩,gb,eb,nb,fb⟩:=tb
 simp only at ea fa eb fb
 subst ea fa eb fb
 obtain ⟨hp,g,d,tk,os⟩:=s
 have f2:=AutoSeq1.sub_tuple_tuple
 refine wpAny_richCompare_same_room (op:= .Eq) ⟨_,ga,rfl⟩ ⟨_,gb,rfl⟩ F.slot_tuple_eq (wpAny_call_entry F.slot_tuple_eq ⟨_,ga,rfl⟩ F.entry_tuple_eq ?_ (F.args_tuple_eq_2 _ _)) hu
 wp_walk using wpAny_loadPart' ga,wpAny_loadPart' gb,wpAny_forIn_list _ (fun rest q s'=>q.1=none∧s'=⟨hp,g,d,tk,os⟩∧∀p∈rest,p∈xs.toList.zip ys.toList) _
 case turn=>
  rintro ⟨x,y⟩ rest q s' ⟨e1,rfl,hr⟩
  refine wpAny_bind (he _ (hr _ v7) _ _ ?_)
  wp_walk
  exact ⟨rfl,rfl,fun p m=>hr p (uX _ m)⟩
 case fin=>
  rintro ⟨q1,q2⟩ s' ⟨e1,rfl,hr⟩
  simp only at e1
  subst e1
  wp_walk
  rw [hz]
  exact ⟨_,rfl,(fun z=>by simp [Builtin.Tuple.tupleCompareSizes] at z),by simpa [Builtin.Tuple.tupleCompareSizes] using h⟩
 case h=>exact ⟨rfl,rfl,fun p m=>m⟩
theorem qc {a b:Addr} {xs ys:Array Value} {Q:Value→Shared→Prop} (ta:s.heap.IsTuple a xs) (tb:s.heap.IsTuple b ys) (hu:A.units < cLine) (hz:xs.size=ys.size)
 (he:∀p∈xs.toList.zip ys.toList,Sm prog w A.in1 s p.1 p.2) (h:Q (.bool false) s):wpAny (model prog w) A (richCompare .NotEq (.ref a) (.ref b)) Q E s:=by
 obtain ⟨⟨ca,da,va,sa⟩,ga,ea,na,fa⟩:=ta
 obtain ⟨⟨cb,db,vb,sb⟩,gb,eb,nb,fb⟩:=tb
 simp only at ea fa eb fb
 subst ea fa eb fb
 obtain ⟨hp,g,d,tk,os⟩:=s
 have f2:=AutoSeq1.sub_tuple_tuple
 refine wpAny_richCompare_same_room (op:= .NotEq) ⟨_,ga,rfl⟩ ⟨_,gb,rfl⟩ F.slot_tuple_ne (wpAny_call_entry F.slot_tuple_ne ⟨_,ga,rfl⟩ F.entry_tuple_ne ?_ (F.args_tuple_ne_2 _ _)) hu
 wp_walk using wpAny_loadPart' ga,wpAny_loadPart' gb,wpAny_forIn_list _ (fun rest q s'=>q.1=none∧s'=⟨hp,g,d,tk,os⟩∧∀p∈rest,p∈xs.toList.zip ys.toList) _
 case turn=>
  rintro ⟨x,y⟩ rest q s' ⟨e1,rfl,hr⟩
  refine wpAny_bind (he _ (hr _ v7) _ _ ?_)
  wp_walk
  exact ⟨rfl,rfl,fun p m=>hr p (uX _ m)⟩
 case fin=>
  rintro ⟨q1,q2⟩ s' ⟨e1,rfl,hr⟩
  simp only at e1
  subst e1
  wp_walk
  rw [hz]
  exact ⟨_,rfl,(fun z=>by simp [Builtin.Tuple.tupleCompareSizes] at z),by simpa [Builtin.Tuple.tupleCompareSizes] using h⟩
 case h=>exact ⟨rfl,rfl,fun p m=>m⟩
end
section
variable {X:Cx}
noncomputable def rInD (P:Program) (w:World) (K:PySem.W.Frag):R2:=fun x y H Q=>∃a,y= .ref a∧((∃kvs t,x= .str t∧H a=some (.dK kvs)∧Q (.bl (valV kvs (.inr t)).isSome) H)∨∃b k kvs,x= .ref b∧DJ P w K H a kvs∧KeyAt K H k b∧Q (.bl (valJ kvs k).isSome) H)
theorem qx (hu:X.A.units+30 < cLine):OpR X (compareOp .In) (rInD X.prog X.w X.K):=by
 intro pins s σ H x y v u Q I rx ry h
 obtain ⟨a,e,h⟩:=h
 subst e
 cases (show u=Value.ref a from ry)
 rcases h with ⟨kvs,t,e,ha,q⟩|⟨b,k,kvs,e,d,kb,q⟩
 · subst e
   exact d_in (by omega) I (DGet.k (k:= .inr t) ha) rx fun s' I'=>⟨.bl (valV kvs (.inr t)).isSome,H,I',rfl,q⟩
 · subst e
   cases (show v=Value.ref b from rx)
   obtain ⟨_,hd,xs,rel,dd⟩:=lq I.hok I.kIn d
   refine wpAny_in_heap (knd:=Tk.treeKind X.prog X.w) (by show X.A.units+1+20 < cLine;omega) (kb.is I.hok I.kIn) hd dd ⟨.bl (valJ kvs k).isSome,H,I.tok _,?_,q⟩
   have e:=(rel.val k).isSome_eq
   rw [Option.isSome_map] at e
   rw [e]
   rfl
theorem ot {P:Program} {w:World} {K:PySem.W.Frag} (hP:X.prog=P) (hw:X.w=w) (hK:X.K=K) (hu:X.A.units+30 < cLine):OpR X (compareOp .In) (rInD P w K):=by
 subst hP hw hK
 exact qx hu
variable {pos pos':Pos} {o i value:Expr} {td ty tv:TE} {pins:List (Addr×Obj)} {σ:L2.St} {H:Hp} {s:Shared}
noncomputable def nV (P:Program) (w:World) (K:PySem.W.Frag) (td ty tv:TE):TS:=fun D σ H=>tv σ H fun v H1=>td σ H1 fun x H2=>ty σ H2 fun y H3=>∃a,x= .ref a∧
 ((∃kvs t,y= .str t∧H3 a=some (.dK kvs)∧kvs.length < sizeLine∧D.nx σ (upd H3 a (.dK (putK kvs (.inr t) v))))∨∃b k kvs,y= .ref b∧DJ P w K H3 a kvs∧KeyAt K H3 k b∧kvs.length < sizeLine∧D.nx σ (upd H3 a (dJ P w a (putJ kvs k b v))))
theorem o9 (hu:X.A.units+30 < cLine) (ho:PE X o td) (hi:PE X i ty) (hv:PE X value tv) (hs:swapsWith value (some (.Subscript o i pos')) pos.line X.env=pure false):
 PS X (.Assign [.Subscript o i pos'] value pos) (nV X.prog X.w X.K td ty tv):=by
 intro pins s σ H D I h
 refine wpAny_Assign_Subscript (thn (hv pins s σ H _ I h) fun r s1 ⟨v,H1,I1,rv,q1⟩=>thn (ho pins s1 σ H1 _ I1 q1) fun u s2 ⟨x,H2,I2,rx,q2⟩=>thn (hi pins s2 σ H2 _ I2 q2) fun iv s3 ⟨y,H3,I3,ry,a,ex,q3⟩=> ?_) hs
 subst ex
 cases (show u=Value.ref a from rx)
 rcases q3 with ⟨kvs,t,ey,ha,hl,q⟩|⟨b,k,kvs,ey,d,kb,hl,q⟩
 · subst ey
   exact mI (by omega) I3 (DPut.k (k:= .inr t) ha hl) ry rv fun s' I'=>⟨σ,_,I',q⟩
 · subst ey
   cases (show iv=Value.ref b from ry)
   obtain ⟨z,hd,xs,rel,dd⟩:=lq I3.hok I3.kIn d
   have hz:xs.length≤sizeLine:=by rw [←Paired.length rel];exact z
   have hl2:(putJ kvs k b v).length≤sizeLine:=by have:=iT kvs k b v;omega
   refine wpAny_setItem_heap (hsz:=hz) (by show X.A.units+1+20 < cLine;omega) (kb.is I3.hok I3.kIn) dd fun h' dd' hs=>⟨σ,_,?_,q⟩
   obtain ⟨q,es,ep,hq,h2,h3,h4,_,h5⟩:=dd'
   exact il I3 (by rw [d.at_];exact True.intro) hs ⟨q,hq⟩ (pA hl2 hd (rel.put k rv) ⟨q,es,ep,hq,h2,h3,h4,h5⟩)
theorem k8 {P:Program} {w:World} {K:PySem.W.Frag} (hP:X.prog=P) (hw:X.w=w) (hK:X.K=K) (hu:X.A.units+30 < cLine) (ho:PE X o td) (hi:PE X i ty) (hv:PE X value tv) (hs:swapsWith value (some (.Subscript o i pos')) pos.line X.env=pure false):
 PS X (.Assign [.Subscript o i pos'] value pos) (nV P w K td ty tv):=by
 subst hP hw hK
 exact o9 hu ho hi hv hs
open Tre
def SmK (H:Hp) (ka kb:List (Key×V)):Prop:=ka.length=kb.length∧∀p∈ka,∃v t,valV kb p.1=some v∧TrAt H p.2 t∧TrAt H v t∧t.pure∧t.depth≤4
def SmJ (H:Hp) (ka kb:List Ent):Prop:=ka.length=kb.length∧∀p∈ka,∃(j:Nat) (b:Addr) (v:V) (t:Tr),kb[j]?=some (p.1,b,v)∧TrAt H p.2.2 t∧TrAt H v t∧t.pure∧t.depth≤4
theorem j5 (I:Inv X pins σ H s) {A:Around} {v y:V} {a b:Value} {t:Tr} (hp:t.pure) (hd:t.depth≤4) (h1:TrAt H v t) (h2:TrAt H y t) (r1:RelV v a) (r2:RelV y b) (hu:A.units+6 < cLine):SeqAt.EqAt A s a b true:=by
 have:=gZ I 4 hd (.inl hp) h1 h2 r1 r2 (by omega) (A:=A)
 rw [fw] at this
 exact this
theorem sm_K (I:Inv X pins σ H s) {A:Around} {a b:Addr} {ka kb:List (Key×V)} (ha:H a=some (.dK ka)) (hb:H b=some (.dK kb)) (h:SmK H ka kb) (hu:A.units+40 < cLine):Sm X.prog X.w A s (.ref a) (.ref b):=by
 obtain ⟨_,za,va,ra,da⟩:=pq I.hok ha
 obtain ⟨_,zb,vb,rb,db⟩:=pq I.hok hb
 refine jX fun E Q q=>k4 da.typeIs db.typeIs (by omega) (fun Q q=> ?_) q
 have hits:∀ {l:List (Key×V)} {m:List (Key×Value)},KV l m→(∀p∈l,∃v t,valV kb p.1=some v∧TrAt H p.2 t∧TrAt H v t∧t.pure∧t.depth≤4)→KeqHits A.in1 s vb m true:=by
  intro l m r
  induction r with
  |nil=>exact fun _=> .nil
  | @cons p q ps qs hq t ih=>
   intro hp
   obtain ⟨v,t',e1,t1,t2,hpu,hd⟩:=hp p v7
   have rv:=rb.val p.1
   rw [e1] at rv
   cases ev:valueAt vb p.1 with
   |none=>rw [ev] at rv;exact rv.elim
   |some y=>
    rw [ev] at rv
    obtain ⟨h1,h2⟩:=hq
    have:=KeqHits.hit (A:=A.in1) (s:=s) (kb:=vb) (k:=q.1) (v:=q.2) (y:=y) (r:=qs) (e:=true) (b:=true) (by rw [←h1];exact ev) (j5 I hpu hd t1 t2 h2 rv (by show A.units+1+6 < cLine;omega)) (ih fun p m=>hp p (uX _ m))
    exact this
 refine keq_samePairs (knd:=aV X.prog X.w) za zb da db (fun _=>hits ra h.2) ?_
 have e1:=ra.length
 have e2:=rb.length
 have e3:(va.length==vb.length)=true:=by rw [←e1,←e2,h.1];simp
 rw [e3]
 exact q
theorem sJ {kvs:List Ent} {xs:List (List Tk.KT×Addr×Value)} (r:RE kvs xs):∀ {j:Nat} {k:List Tk.KT} {b:Addr} {v:V},kvs[j]?=some (k,b,v)→∃u,xs[j]?=some (k,b,u)∧RelV v u:=by
 induction r with
 |nil=>intro j k b v e;simp at e
 | @cons p q ps qs hq t ih=>
  intro j k b v e
  cases j with
  |zero=>
   have e:p=(k,b,v):=by simpa using e
   subst e
   obtain ⟨h1,h2,h3⟩:=hq
   refine ⟨q.2.2,?_,h3⟩
   show some q=_
   rw [show q=(q.1,q.2.1,q.2.2) from rfl,←h1,←h2]
  |succ j=>exact ih (j:=j) (by simpa using e)
theorem sI {kvs:List Ent} {xs:List (List Tk.KT×Addr×Value)} (r:RE kvs xs):∀x∈xs,∃p∈kvs,p.1=x.1∧RelV p.2.2 x.2.2:=by
 induction r with
 |nil=>intro x m;cases m
 | @cons p q ps qs hq t ih=>
  intro x m
  rcases vd.mp m with e|m
  · subst e
    exact ⟨p,v7,hq.1,hq.2.2⟩
  · obtain ⟨p',m',e⟩:=ih x m
    exact ⟨p',uX _ m',e⟩
theorem sm_J (I:Inv X pins σ H s) {A:Around} {a b:Addr} {ka kb:List Ent} (ha:DJ X.prog X.w X.K H a ka) (hb:DJ X.prog X.w X.K H b kb) (h:SmJ H ka kb) (hu:A.units+40 < cLine):Sm X.prog X.w A s (.ref a) (.ref b):=by
 obtain ⟨_,za,xa,ra,da⟩:=lq I.hok I.kIn ha
 obtain ⟨_,zb,xb,rb,db⟩:=lq I.hok I.kIn hb
 refine jX fun E Q q=>k4 da.typeIs db.typeIs (by omega) (fun Q q=> ?_) q
 refine qt (knd:=Tk.treeKind X.prog X.w) za zb (by show A.units+1+20 < cLine;omega) da db ?_ (fun x m=> ?_) q
 · have e1:=Paired.length ra
   have e2:=Paired.length rb
   have:=h.1
   omega
 · obtain ⟨p,mp,e1,r1⟩:=sI ra x m
   obtain ⟨j,b',v,t,ej,t1,t2,hpu,hd⟩:=h.2 p mp
   obtain ⟨u,eu,ru⟩:=sJ rb ej
   refine ⟨j,(b',u),by rw [←e1];exact eu,fun E Q q=> ?_⟩
   exact j5 I hpu hd t1 t2 r1 ru (by show A.units+1+6 < cLine;omega) _ _ _ _ q
structure W3 (P:Program) (w:World) (K:PySem.W.Frag) (H:Hp) (r1 r2:Addr):Prop where
 ex:∃F D C F' D' C' kF kD kC kF' kD' kC',H r1=some (.tup [.ref F, .ref D, .ref C])∧H r2=some (.tup [.ref F', .ref D', .ref C'])∧H F=some (.dK kF)∧H F'=some (.dK kF')∧H D=some (.dK kD)∧H D'=some (.dK kD')∧
  DJ P w K H C kC∧DJ P w K H C' kC'∧SmK H kF kF'∧SmK H kD kD'∧SmJ H kC kC'
theorem iu (I:Inv X pins σ H s) {A:Around} {r1 r2:Addr} (h:W3 X.prog X.w X.K H r1 r2) (hu:A.units+50 < cLine):∃xs ys:Array Value,s.heap.IsTuple r1 xs∧s.heap.IsTuple r2 ys∧xs.size=ys.size∧∀p∈xs.toList.zip ys.toList,Sm X.prog X.w A.in1 s p.1 p.2:=by
 obtain ⟨F,D,C,F',D',C',kF,kD,kC,kF',kD',kC',h1,h2,hF,hF',hD,hD',hC,hC',sF,sD,sC⟩:=h.ex
 obtain ⟨i1,rv1,t1,_⟩:=I.tuple (SqT.of h1)
 obtain ⟨i2,rv2,t2,_⟩:=I.tuple (SqT.of h2)
 cases rv1 with
 |cons a1 rv1=>cases rv1 with
  |cons a2 rv1=>cases rv1 with
   |cons a3 rv1=>
    cases rv1
    cases rv2 with
    |cons b1 rv2=>cases rv2 with
     |cons b2 rv2=>cases rv2 with
      |cons b3 rv2=>
       cases rv2
       cases a1;cases a2;cases a3;cases b1;cases b2;cases b3
       refine ⟨_,_,t1,t2,rfl,fun p m=> ?_⟩
       simp only [List.zip_cons_cons,List.zip_nil_left,vd,vN,or_false] at m
       rcases m with rfl|rfl|rfl
       · exact sm_K I hF hF' sF (by show A.units+1+40 < cLine;omega)
       · exact sm_K I hD hD' sD (by show A.units+1+40 < cLine;omega)
       · exact sm_J I hC hC' sC (by show A.units+1+40 < cLine;omega)
def rNeW (P:Program) (w:World) (K:PySem.W.Frag):R2:=fun x y H Q=>(∃a,x= .str a∧y= .str a∧Q (.bl false) H)∨∃r1 r2,x= .ref r1∧y= .ref r2∧W3 P w K H r1 r2∧Q (.bl false) H
def rEqW (P:Program) (w:World) (K:PySem.W.Frag):R2:=fun x y H Q=>(∃a,x= .str a∧y= .str a∧Q (.bl true) H)∨∃r1 r2,x= .ref r1∧y= .ref r2∧W3 P w K H r1 r2∧Q (.bl true) H
theorem jt {P:Program} {w:World} {K:PySem.W.Frag} (hP:X.prog=P) (hw:X.w=w) (hK:X.K=K) (hu:X.A.units+60 < cLine):OpR X (compareOp .NotEq) (rNeW P w K):=by
 subst hP hw hK
 intro pins s σ H x y v u Q I rx ry h
 rcases h with ⟨a,e1,e2,q⟩|⟨r1,r2,e1,e2,h,q⟩
 · subst e1 e2
   refine cF pins s σ H (.str a) (.str a) v u Q I rx ry ⟨rfl,?_⟩
   rw [decide_eq_true rfl]
   exact q
 · subst e1 e2
   cases (show v=Value.ref r1 from rx)
   cases (show u=Value.ref r2 from ry)
   obtain ⟨xs,ys,t1,t2,hz,he⟩:=iu I (A:=X.A) h (by omega)
   exact qc t1 t2 (by omega) hz he ⟨.bl false,H,I,rfl,q⟩
theorem sV {P:Program} {w:World} {K:PySem.W.Frag} (hP:X.prog=P) (hw:X.w=w) (hK:X.K=K) (hu:X.A.units+60 < cLine):OpR X (compareOp .Eq) (rEqW P w K):=by
 subst hP hw hK
 intro pins s σ H x y v u Q I rx ry h
 rcases h with ⟨a,e1,e2,q⟩|⟨r1,r2,e1,e2,h,q⟩
 · subst e1 e2
   refine b9 pins s σ H (.str a) (.str a) v u Q I rx ry ⟨rfl,?_⟩
   rw [decide_eq_true rfl]
   exact q
 · subst e1 e2
   cases (show v=Value.ref r1 from rx)
   cases (show u=Value.ref r2 from ry)
   obtain ⟨xs,ys,t1,t2,hz,he⟩:=iu I (A:=X.A) h (by omega)
   exact qd t1 t2 (by omega) hz he ⟨.bl true,H,I,rfl,q⟩
end
end Dj
namespace L2
open PySem PySem.Spec PySem.W PyProof.Rows
noncomputable def cR:List Value→Bool
 | [.type a, .type b, .type c, .type d]=>a=="ValueError"&&b=="Exception"&&c=="BaseException"&&d=="object"
 | .ref _::r=>cR r
 |_=>false
theorem m6 {a b c d:String} (h:cR [.type a, .type b, .type c, .type d]=true):a= "ValueError"∧b= "Exception"∧c= "BaseException"∧d= "object":=by
 have h:(a=="ValueError"&&b=="Exception"&&c=="BaseException"&&d=="object")=true:=h
 simp only [v4,beq_iff_eq] at h
 exact ⟨h.1.1.1,h.1.1.2,h.1.2,h.2⟩
theorem jr (self:Value):refuseLoop self "__setattr__" [.type "ValueError", .type "Exception", .type "BaseException", .type "object"]=pure ():=by kernel_rfl
theorem eB {l:List Value} (h:cR l=true):l= [.type "ValueError", .type "Exception", .type "BaseException", .type "object"]∨∃c r,l= .ref c::r∧cR r=true:=by
 unfold cR at h
 split at h
 · obtain ⟨rfl,rfl,rfl,rfl⟩:=m6 h
   exact .inl rfl
 · exact .inr ⟨_,_,rfl,h⟩
 · cases h
theorem eo (self:Value):∀ {l:List Value},cR l=true→refuseLoop self "__setattr__" l=pure ()
 | [],h=>by cases h
 |x::r,h=>by
  rcases eB h with e|⟨c,r',e,h'⟩
  · rw [e]
    exact jr self
  · injection e with e1 e2
    subst e1 e2
    rw [refuseLoop_ref]
    exact eo self h'
theorem iK:∀ {l:List Value},cR l=true→l.contains (.type "object")=true
 | [],h=>by cases h
 |x::r,h=>by
  rcases eB h with e|⟨c,r',e,h'⟩
  · rw [e];decide
  · injection e with e1 e2
    subst e1 e2
    rw [List.contains_cons,iK h',Bool.or_true]
noncomputable def cq (K:Frag) (C:Addr):Bool:=(clsIn K C).any fun cd=>cR cd.mro&&cd.hasDict
section
variable {prog:Program} {w:World} {A:Around} {E:Value→Shared→Prop} {s:Shared} {K:Frag} {x C:Addr} {name:Str} {v:Value}
theorem qu {ox:Obj} {od:Option Obj} {tk:Tok} {R:Result→Shared→Prop} (X:K.In s.heap) (I:PySem.W.InstAt s.heap x ox C od) {cd:ClassData} (hc:clsIn K C=some cd) (ho:cR cd.mro=true) (ht:takerIn K C name=some none)
 (h:∀b,wpAny (model prog w) A.in1 (Builtin.ObjectAttr.storeInOwnDict (.ref x) (.ref C) (.str name tk) name v b)
  (fun fin s'=>match fin with| .done f=>R (.ok f) s'| .again c'=>c'.quiet=true∧codeAny (model prog w) A c' R s') (fun e s'=>R (.error e) s') s):
 codeAny (model prog w) A (.call (.builtin "object.__setattr__") ⟨[.ref x, .str name tk,v],[]⟩) R s:=by
 have SF:=PySem.F.store_object
 have ne:cd.mro.isEmpty=false:=by cases q:cd.mro with|nil=>rw [q] at ho;cases ho|cons _ _=>rfl
 have sub:Looks (model prog w) s.heap (isInstance (.ref x) (.type "object")) true:=I.type.andThen (looks_mroIn X (by unfold mroIn;rw [hc,Option.bind_some,if_neg (by rw [ne];decide),iK ho]))
 refine codeAny_call_builtin SF.slot.plain SF.entry (@check_slot (model prog w) _ _ s "object.__setattr__" "object" "__setattr__" (.ref x) [.str name tk,v] [] _ SF.kind SF.split sub (SF.args (.ref x) (.str name tk) v) ?_)
 obtain ⟨attr,ha,hr⟩:=Option.bind_eq_some_iff.mp ht
 have hm:Looks (model prog w) s.heap (mroOf (.ref C)) cd.mro:=(looks_clsIn X hc).andThen .now
 have L3:Looks (model prog w) s.heap (Builtin.ObjectAttr.storeTaker? attr) none:=by
  cases attr with
  |none=>exact .now
  |some a=>
   obtain ⟨b,hb,e⟩:=vK.mp hr
   refine (looks_takesIn X hb).andThen ?_
   cases b
   · exact .now
   · cases e
 rw [osa_eq,refuse_eq]
 refine wpAny_bind (wpAny_bind (I.type.here (wpAny_bind (hm.here ?_))))
 rw [eo _ ho]
 refine wpAny_pure (wpAny_bind (I.type.here (wpAny_bind ((looks_findIn X ha).here (wpAny_bind (L3.here ?_))))))
 exact h _
theorem qa {vs:Array Value} {Q:Unit→Shared→Prop} (X:K.In s.heap) (hx:s.heap.get? x=some {cls:= .ref C,data:= .fields vs})
 (hs:findIn K (.ref C) "__setattr__"=some (some (.builtin "object.__setattr__"))) (hp:cq K C=true) (ht:takerIn K C name=some none)
 (h:∀h' d,s.heap.objs.size≤d→d≠x→h'.get? x=some {cls:= .ref C,dict:=some d,data:= .fields vs}→h'.Ns1 d (fun y=>if y=name then some v else none)→(∀b o,b≠x→s.heap.get? b=some o→h'.get? b=some o)→Q () {s with heap:=h',toks:=s.toks+2}):
 wpAny (model prog w) A (setAttr (.ref x) name v) Q E s:=by
 obtain ⟨cd,hc,hcd⟩:=any_some hp
 rw [v4] at hcd
 have I:PySem.W.InstAt s.heap x {cls:= .ref C,data:= .fields vs} C none:=⟨hx,rfl,rfl,trivial⟩
 refine set_plain X I hs (qu (s:= {s with toks:=s.toks+1}) X I hc hcd.1 ht fun b=> ?_)
 refine wpAny_bind (wpAny_pure (wpAny_bind (wpAny_bind (wpAny_loadPart hx (wpAny_bind (PySem.W.Looks.here (s:= {s with toks:=s.toks+1}) (looks_clsIn X hc) ?_))))))
 rw [hcd.2]
 have hxs:x≠s.heap.objs.size:=vf (Heap.lt_size hx)
 have hx₁:(s.heap.push {cls:= .type "dict",data:= .dict #[]}).get? x=some {cls:= .ref C,data:= .fields vs}:=Heap.get?_push_of_some _ hx
 refine wpAny_bind (wpAny_alloc (s:= {s with toks:=s.toks+1}) ?_)
 refine wpAny_bind (wpAny_update (s:= {s with heap:=s.heap.push {cls:= .type "dict",data:= .dict #[]},toks:=s.toks+1}) hx₁ ?_)
 refine wpAny_pure ?_
 have hgd:((s.heap.push {cls:= .type "dict",data:= .dict #[]}).update x fun o=> {o with dict:=some s.heap.objs.size}).get? s.heap.objs.size=some {cls:= .type "dict",data:= .dict #[]}:=
  (Heap.get?_update_ne _ _ _ _ hxs.symm).trans (Heap.get?_push_at rfl rfl)
 have hgx:((s.heap.push {cls:= .type "dict",data:= .dict #[]}).update x fun o=> {o with dict:=some s.heap.objs.size}).get? x=some {cls:= .ref C,dict:=some s.heap.objs.size,data:= .fields vs}:=
  Heap.get?_update_self (fun o=> {o with dict:=some s.heap.objs.size}) hx₁ rfl
 have hgo:∀b o,b≠x→s.heap.get? b=some o→((s.heap.push {cls:= .type "dict",data:= .dict #[]}).update x fun o=> {o with dict:=some s.heap.objs.size}).get? b=some o:=fun b o nb e=>(Heap.get?_update_ne _ _ _ _ nb).trans (Heap.get?_push_of_some _ e)
 generalize ((s.heap.push {cls:= .type "dict",data:= .dict #[]}).update x fun o=> {o with dict:=some s.heap.objs.size})=h1 at hgd hgx hgo
 have hnd:h1.Ns s.heap.objs.size (fun _=>none):=⟨_, #[],_,hgd,rfl,fun e he=>absurd he (by simp),fun _=>rfl⟩
 show wpAny _ _ (Builtin.ObjectAttr.storeInDict s.heap.objs.size (.str name s.toks) name v) _ _ _
 unfold Builtin.ObjectAttr.storeInDict Builtin.ObjectAttr.newKeyGuard
 refine wpAny_bind (wpAny_pure (wpAny_bind (wpAny_nsSet1 (s:= {s with heap:=h1,toks:=s.toks+1}) (Heap.Ns1.of_empty hnd) fun h' hn' hs'=> ?_)))
 obtain ⟨oD,esD,epD,hoD,hdD,hcD⟩:=hn'.count (ns:= [name]) (PySem.Within.cons name v (ns:= []) fun y hy=>absurd rfl hy)
 refine wpAny_bind (wpAny_lookBehind hoD (by rw [hdD];exact pastItsLine_dict (vh hcD (by rw [uU,vR,sizeLine_eq];omega))) ?_)
 exact wpAny_pure (h _ _ (uW _) hxs.symm ((hs'.2 _ hxs).trans hgx) hn' fun b o nb e=>(hs'.2 _ (vf (Heap.lt_size e))).trans (hgo b o nb e))
end
end L2
namespace L2
section
open PySem
variable {M:Model} {A:Around} {E:Value→Shared→Prop} {s:Shared} {bh:Heap} {ev:Env} {out:List Env} {fr x:Addr} {ob:Obj} {fs:Array Value} {a1:Value}
def HasD (x:Addr) (d:Option Addr) (h:Heap):Prop:=∃o,h.get? x=some o∧o.dict=d
theorem oK (o:Obj) (f:Array Value→Array Value):(Obj.mapFields f o).dict=o.dict:=by
 unfold Obj.mapFields
 split<;>rfl
theorem rX {hd:Value} {nx:Bool} {Q:Unit→Shared→Prop} (kf:A.frames=some (ev::out)) (kl:s.heap.FunFrames bh (ev::out)) (ke:ev.frame=some fr)
 (kx:s.heap.get? x=some ob) (kb:bh.StaysIn s.heap) (kn:bh.get? x=none) (kd:ob.data= .fields fs) (kz:1 < fs.size) (k0:fs[0]?=some a1)
 (k:∀g,Heap.NotedW bh (ev::out) x ob.cls a1 (rawInt fr) s.heap g→HasD x ob.dict g→Q () {s with heap:=g}):
 wpAny M A (do let p←frameOf ev;let q←entryPlaceOf fr nx;let r←EntryCells.newEntry hd p .none (rawInt fr) .none q;setField (.ref x) 1 r) Q E s:=by
 have nin:x∉(ev::out).filterMap (·.frame):=by
  intro m
  obtain ⟨_,o,z,w⟩:=kl.mem m
  rw [kx] at z
  cases z
  exact w _ kd
 refine wpAny_bind (wpAny_frameOf_fun kf kl ke fun g1 sl=> ?_)
 refine wpAny_bind (wpAny_entryPlaceOf fun pl okp=> ?_)
 unfold EntryCells.newEntry newFields
 refine wpAny_bind (wpAny_newObj_type ?_ (okp.sizeOk5 _ _ _ _ _))
 have x1:g1.get? x=some ob:=by rw [sl.2.1 x nin];exact kx
 have b1:bh.StaysIn g1:=by
  intro b o z
  have nb:b∉(ev::out).filterMap (·.frame):=by
   intro m
   rw [(kl.mem m).1] at z
   cases z
  rw [sl.2.1 b nb]
  exact kb b o z
 generalize eT:([hd, .ref fr, .none,rawInt fr, .none]++(if pl.isEmpty then List.replicate 6 Value.none else pl)).toArray=T
 have lenT:3 < T.size∧T[3]?=some (rawInt fr):=by
  subst eT
  constructor
  · simp only [uY,vc,uU,vR];omega
  · simp
 have x2:(g1.push {cls:= .type "traceback",dict:=none,data:= .fields T}).get? x=some ob:=Heap.get?_push_of_some _ x1
 refine wpAny_setField x2 kd kz ?_
 have neT:g1.objs.size≠x:=(vf (Heap.lt_size x1)).symm
 have d3:=Obj.data_mapFields kd (·.setIfInBounds 1 (Value.ref g1.objs.size))
 have x3:=Heap.get?_update_self (Obj.mapFields (·.setIfInBounds 1 (Value.ref g1.objs.size))) x2 (Obj.isFreed_of_fields d3)
 have oth:∀b o,b≠x→g1.get? b=some o→((g1.push {cls:= .type "traceback",dict:=none,data:= .fields T}).update x (Obj.mapFields (·.setIfInBounds 1 (Value.ref g1.objs.size)))).get? b=some o:=by
  intro b o nb z
  rw [Heap.get?_update_other _ _ nb.symm]
  exact Heap.get?_push_of_some _ z
 have tT:((g1.push {cls:= .type "traceback",dict:=none,data:= .fields T}).update x (Obj.mapFields (·.setIfInBounds 1 (Value.ref g1.objs.size)))).get? g1.objs.size=some {cls:= .type "traceback",dict:=none,data:= .fields T}:=by
  rw [Heap.get?_update_other _ _ neT.symm]
  exact Heap.get?_push_size g1 rfl
 have nf:∀b o,s.heap.get? b=some o→(∀vs,o.data≠ .fields vs)→b≠x:=by
  intro b o z nv e
  rw [e,kx] at z
  cases z
  exact nv _ kd
 refine k _ ⟨fun b o z=>oth b o (fun e=>by rw [e,kn] at z;cases z) (b1 b o z),kl.of_keeps fun b o z nv=> ?_,?_,fun b o z nv=> ?_⟩ ⟨_,x3,oK _ _⟩
 · obtain ⟨l,z1⟩:=sl.2.2 b o z
   exact ⟨_,oth b _ (nf b o z nv) z1,rfl⟩
 · refine ⟨_,_,g1.objs.size,_,_,x3,⟨Obj.cls_mapFields _ _,?_⟩,d3,by simp [kz],b1.fresh,neT,tT,rfl,lenT.2⟩
   rw [Array.getElem?_setIfInBounds_ne (by decide)]
   exact k0
 · obtain ⟨l,z1⟩:=sl.2.2 b o z
   exact ⟨l,oth b _ (nf b o z nv) z1⟩
theorem ft {l:List Env} {cl fl:Value} {d:Option Addr} {Q:Unit→Shared→Prop} (kb:bh.StaysIn s.heap) (kn:bh.get? x=none) (kl:s.heap.FunFrames bh l) (kt:s.heap.TracedAtW bh x cl a1 fl) (kd:HasD x d s.heap)
 (k:∀g,Heap.FlyingW bh l x cl a1 g→s.heap.UpToSlots g→HasD x d g→Q () {s with heap:=g}):wpAny M A (setFlight (.ref x) none) Q E s:=by
 obtain ⟨o1,f1,T,oT,tf,z1,zc,zd,zT,nT,neT,yT,yd,y3⟩:=kt
 have sz:3 < tf.size:=(Array.getElem?_eq_some_iff.mp y3).1
 unfold setFlight
 refine wpAny_bind (wpAny_field z1 zd zT ?_)
 rw [if_pos (show (Value.ref T !=Value.none)=true from by simp)]
 have same:∀b,b≠T→(s.heap.update T (Obj.mapFields (·.setIfInBounds 3 ((none:Option Addr).elim Value.none fun f=>rawInt f)))).get? b=s.heap.get? b:=fun b nb=>Heap.get?_update_other _ _ nb.symm
 have notT:∀b o,s.heap.get? b=some o→(∀vs,o.data≠ .fields vs)→b≠T:=by
  intro b o z nv e
  rw [e,yT] at z
  cases z
  exact nv _ yd
 have stay:∀b o,s.heap.get? b=some o→b≠T→(s.heap.update T (Obj.mapFields (·.setIfInBounds 3 ((none:Option Addr).elim Value.none fun f=>rawInt f)))).get? b=some o:=by
  intro b o z nb
  rw [same b nb]
  exact z
 refine wpAny_setField yT yd sz (k _ ⟨?_,kn,kl.of_keeps fun b o z nv=>⟨o,stay b o z (notT b o z nv),rfl⟩,o1,f1,T,_,_,stay x o1 z1 neT.symm,zc,zd,zT,nT,neT,Heap.get?_update_self _ yT (Obj.isFreed_of_fields (Obj.data_mapFields yd _)),Obj.data_mapFields yd _,by simp [sz]⟩ (fun b o z nv=>⟨o.slots,stay b o z (notT b o z nv)⟩) ?_)
 · intro b o z
   refine stay b o (kb b o z) fun e=> ?_
   rw [e,nT] at z
   cases z
 · obtain ⟨o2,w1,w2⟩:=kd
   exact ⟨o2,stay x o2 w1 neT.symm,w2⟩
theorem qK {Q:Unit→Shared→Prop} (kf:A.frames=some (ev::out)) (kl:s.heap.FunFrames bh (ev::out)) (ke:ev.frame=some fr)
 (kx:s.heap.get? x=some ob) (kb:bh.StaysIn s.heap) (kn:bh.get? x=none) (kd:ob.data= .fields fs) (k1:fs[1]?=some .none) (k0:fs[0]?=some a1)
 (k:∀g,Heap.FlyingW bh out x ob.cls a1 g→s.heap.UpToSlots g→HasD x ob.dict g→Q () {s with heap:=g}):wpAny M A (leaving ev (.ref x)) Q E s:=by
 unfold leaving noteFrame
 simp only [ke]
 refine wpAny_bind (wpAny_bind (wpAny_field kx kd k1 ?_))
 rw [if_neg (by decide)]
 refine rX kf kl ke kx kb kn kd (Array.getElem?_eq_some_iff.mp k1).1 k0 fun g nw hd=> ?_
 obtain ⟨n1,n2,n3,n4⟩:=nw
 refine ft (s:= {s with heap:=g}) n1 kn n2 n3 hd fun g2 fl up hd2=> ?_
 obtain ⟨m1,m2,⟨_,_,m3⟩,m4⟩:=fl
 exact k g2 ⟨m1,m2,m3,m4⟩ (Heap.UpToSlots.trans n4 up) hd2
theorem qI {cl:Value} {d:Option Addr} {Q:Unit→Shared→Prop} (kf:A.frames=some (ev::out)) (ke:ev.frame=some fr) (kl:Heap.FlyingW bh (ev::out) x cl a1 s.heap) (kd:HasD x d s.heap)
 (k:∀g,bh.StaysIn g→g.FunFrames bh (ev::out)→g.TracedAtW bh x cl a1 (rawInt fr)→s.heap.UpToSlots g→HasD x d g→Q () {s with heap:=g}):wpAny M A (noteFrame (.ref x) ev) Q E s:=by
 obtain ⟨kb,kn,kfr,o1,f1,T,oT,tf,z1,⟨zc,z0⟩,zd,zT,nT,neT,yT,yd,y3⟩:=kl
 subst zc
 unfold noteFrame
 simp only [ke]
 refine wpAny_bind (wpAny_field z1 zd zT ?_)
 rw [if_pos (show (Value.ref T !=Value.none)=true from by simp)]
 refine wpAny_bind (wpAny_field yT yd y3 ?_)
 rw [if_neg (show¬((Value.none==rawInt fr)=true) from by simp [rawInt])]
 refine wpAny_bind (wpAny_setField yT yd (Array.getElem?_eq_some_iff.mp y3).1 ?_)
 have stay:∀b o,s.heap.get? b=some o→b≠T→(s.heap.update T (Obj.mapFields (·.setIfInBounds 3 Value.none))).get? b=some o:=by
  intro b o z nb
  rw [Heap.get?_update_other _ _ nb.symm]
  exact z
 have notT:∀b o,s.heap.get? b=some o→(∀vs,o.data≠ .fields vs)→b≠T:=by
  intro b o z nv e
  rw [e,yT] at z
  cases z
  exact nv _ yd
 have hdd:o1.dict=d:=by
  obtain ⟨o2,w1,w2⟩:=kd
  rw [z1] at w1
  cases w1
  exact w2
 refine rX (s:= {s with heap:=s.heap.update T (Obj.mapFields (·.setIfInBounds 3 Value.none))}) kf (kfr.of_keeps fun b o z nv=>⟨o,stay b o z (notT b o z nv),rfl⟩) ke (stay x o1 z1 neT.symm) (fun b o z=>stay b o (kb b o z) fun e=>by rw [e,nT] at z;cases z) kn zd (Array.getElem?_eq_some_iff.mp zT).1 z0 fun g nw hd=> ?_
 obtain ⟨n1,n2,n3,n4⟩:=nw
 exact k g n1 n2 n3 (fun b o z nv=>n4 b o (stay b o z (notT b o z nv)) nv) (hdd▸hd)
end
open PySem PySem.Spec PyProof.Rows
noncomputable def Exf (C e d:Addr):HO:= .ext fun h=>∃t,h.get? e=some {cls:= .ref C,dict:=some d,data:= .fields #[.ref t, .none, .none, .none, .bool false, .none]}
theorem tS {P:Program} {w:World} {H:Hp} {h:Heap} {C e d t:Addr} (x:h.get? e=some {cls:= .ref C,dict:=some d,data:= .fields #[.ref t, .none, .none, .none, .bool false, .none]}):ObjOk P w H h e (Exf C e d):=
 ⟨⟨t,x⟩,⟨_,x⟩,fun _ _ ⟨t',y⟩ k=>⟨t',k _ y⟩⟩
structure XFl (K:PySem.W.Frag) (C:Addr) (f:Str):Prop where
 sa:PySem.W.findIn K (.ref C) "__setattr__"=some (some (.builtin "object.__setattr__"))
 pl:cq K C=true
 tk:PySem.W.takerIn K C f=some none
section
variable {X:Cx} {o value:Expr} {pos pos':Pos} {f:Str} {ta tv:TE}
def uh (K:PySem.W.Frag) (ta tv:TE) (f:Str):TS:=fun D σ H=>tv σ H fun y H1=>ta σ H1 fun x H2=>∃a C,x= .ref a∧H2 a=some (Exo C a)∧XFl K C f∧∀d,H2 d=none→d≠a→D.nx σ (upd (upd H2 d (.xd [(f,y)])) a (Exf C a d))
theorem qj (ha:PE X o ta) (hv:PE X value tv) (hs:swapsWith value (some (.Attribute o f pos')) pos.line X.env=pure false):PS X (.Assign [.Attribute o f pos'] value pos) (uh X.K ta tv f):=by
 intro pins s σ H D I h
 refine plainObj_wpAny_Assign_Attribute (thn (hv pins s σ H _ I h) fun u s1 ⟨y,H1,I1,ry,q⟩=>thn (ha pins s1 σ H1 _ I1 q) fun ov s2 ⟨x,H2,I2,rx,a,C,ex,hH,F,q2⟩=> ?_) hs
 subst ex
 cases (show ov=Value.ref a from rx)
 obtain ⟨⟨t0,oE⟩,_⟩:=(show ObjOk X.prog X.w H2 s2.heap a (Exo C a) from I2.hok a _ hH)
 refine qa (K:=X.K) I2.kIn oE F.sa F.pl F.tk fun h' d hd dn hx hn kk=> ?_
 have fr:H2 d=none:=I2.hok.fresh hd
 have gx:(h'.update a fun _=> {cls:= .ref C,data:= .fields #[.ref t0, .none, .none, .none, .bool false, .none]}).get? a=some {cls:= .ref C,data:= .fields #[.ref t0, .none, .none, .none, .bool false, .none]}:=Heap.get?_update_self (fun _=> {cls:= .ref C,data:= .fields #[.ref t0, .none, .none, .none, .bool false, .none]}) hx rfl
 have go:∀b,b≠a→(h'.update a fun _=> {cls:= .ref C,data:= .fields #[.ref t0, .none, .none, .none, .bool false, .none]}).get? b=h'.get? b:=fun b nb=>Heap.get?_update_other _ _ nb.symm
 generalize (h'.update a fun _=> {cls:= .ref C,data:= .fields #[.ref t0, .none, .none, .none, .bool false, .none]})=hm at gx go
 have I3:=I2.laid (a:=d) (o:= .xd [(f,y)]) (h':=hm) (t':=s2.toks) (fun b v e=>by
  by_cases hb:b=a
  · subst hb
    rw [oE] at e
    cases e
    exact gx
  · rw [go b hb]
    exact kk b v hb e) hd ⟨_,hn.at fun v e=>by rw [go d dn];exact e,fun z=>by
     by_cases e:z=f
     · subst e
       rw [if_pos rfl]
       simp only [List.lookup,beq_self_eq_true]
       exact ry
     · rw [if_neg e]
       have e':(z==f)=false:=by simpa using e
       simp only [List.lookup,e']
       trivial⟩
 have I4:=I3.write (x:=a) (e:=a) (o:=Exf C a d) (h':=h') (t':=s2.toks+2) (by rw [aj dn.symm,hH];exact True.intro) (.inl rfl) (fun b v nb e=>by
  have:=e
  dsimp only at this
  rw [go b nb] at this
  exact this) ⟨_,hx⟩ (tS hx)
 exact ⟨σ,_,I4,q2 d fr dn⟩
end
structure si (K:PySem.W.Frag) (W:Addr) (m:Str) (g:Addr):Prop where
 ga:PySem.W.specialIn K (.ref W) "__getattribute__"=some (some (.builtin "type.__getattribute__"))
 rd:∃mc,PySem.W.readsIn K W mc=true∧PySem.W.findCls K (.ref W) mc m=some (.val (.ref g))
section
variable {X:Cx} {CX:CXT} {k:Nat} {g W:Addr} {fd:FuncData} {ps:List Str} {sp:Sp} {E:XK} {x m:Str} {p pos apos:Pos} {e:Expr} {es:List Expr} {t:TA}
theorem js (L:si X.K W m g) (F:FnOk X.prog X.w X.K X.mg X.base CX k g fd ps sp) (hr:Room k X.A) (hg:Gl X x) (hm:X.mg x=some (.ref W)) (hk:PySem.W.keepIn X.K (.ref g)=true) (hb:Binds X.K fd ps []) (hx:fQ CX X E)
 (ha:PA X (e::es) t) (hdb:(x==("__debug__":Str))=false:=by decide) (he:starEach (e::es) X.env=(false,eval e X.env)::starEach es X.env:=by rfl) (hpl:(backTo pos (starEach es X.env)).any (·.1)=false:=by rfl)
 {pl:Sem Bool} (ht:eval (.Call (.Attribute (.Name x p) m apos) (e::es) [] pos) X.env=(do
  let ov←eval (.Name x p) X.env
  standAt apos.atName
  let (f,first)←holding [ov] (getMethod ov m pl)
  callWith pos f first (backTo pos (starEach (e::es) X.env)) (backToKw pos (keywordEach [] X.env))):=by rfl):
 PE X (.Call (.Attribute (.Name x p) m apos) (e::es) [] pos) (dj sp [] E t):=by
 intro pins s σ H Q I h
 obtain ⟨mc,h1,h2⟩:=L.rd
 refine PySem.W.methodCall_KW (pl:=pl) (cX I hg hm ?_ hdb) ht
 refine PySem.W.method_cls I.kIn L.ga (PySem.W.cls_value I.kIn h1 h2 rfl ?_)
 refine PySem.W.callWith_K (h₀:=X.base) I.ok.mod.kin hk (thn (ha pos pins _ σ H _ (I.tok _) h) fun us s1 ⟨vs,H1,I1,r,q⟩=>⟨I1.kIn,?_⟩) he hpl
 exact nY F hr hb .nil hx I1 r q
end
section
variable {X:Cx} {a b e:Expr} {pos p1:Pos} {ta tb te:TE}
def tFmt (ta te tb:TE):TE:=fun σ H Q=>ta σ H fun x H1=>∃s1,x= .str s1∧s1.length≤1000∧te σ H1 fun y H2=>∃n:Nat,y= .int n∧n < 64∧tb σ H2 fun z H3=>∃s3,z= .str s3∧s3.length≤1000∧∀r:Str,Q (.str r) H3
theorem fv:∀n:Nat,n < 64→((toString (n:Int):String):Str).length≤100:=by decide +kernel
theorem sP (h1:PE X a ta) (h2:PE X e te) (h3:PE X b tb):PE X (.JoinedStr [a, .FormattedValue e (-1) none p1,b] pos) (tFmt ta te tb):=by
 intro pins s σ H Q I h
 have hz:20000≤sizeLine:=by decide +kernel
 refine JoinedStr_many (joinParts_cons (thn (h1 pins s σ H _ I h) fun u s1 ⟨x,H1,I1,rx,w1,ex,l1,q1⟩=> ?_))
 subst ex
 obtain ⟨t1,rfl⟩:=(show∃t,u=Value.str w1 t from rx)
 have le0:((Str.empty++w1:Str)).length=w1.length:=by rw [strLen_append];exact Nat.zero_add _
 refine ⟨by omega,joinParts_cons (FormattedValue_plain (thn (h2 pins s1 σ H1 _ I1 q1) fun u s2 ⟨y,H2,I2,ry,n,ey,l2,q2⟩=> ?_))⟩
 subst ey
 obtain ⟨t2,rfl⟩:=(show∃t,u=Value.int n t from ry)
 have hd:(n:Int).natAbs.log2 < 1920:=by
  rw [vP]
  by_cases z:n=0
  · rw [z];decide
  · exact (Nat.log2_lt z).mpr (v8 l2 (Nat.pow_le_pow_right (n:=2) (by decide) (show 6≤1920 by decide)))
 refine formatField_int_small hd ?_
 have l3:=fv n l2
 have le1:(((Str.empty++w1:Str))++((toString (n:Int):String):Str)).length≤1100:=by rw [strLen_append];omega
 refine ⟨by omega,joinParts_cons (thn (h3 pins _ σ H2 _ ((I2.tok _)) q2) fun u s3 ⟨z,H3,I3,rz,w3,ez,l4,q3⟩=> ?_)⟩
 subst ez
 obtain ⟨t3,rfl⟩:=(show∃t,u=Value.str w3 t from rz)
 have le2:((((Str.empty++w1:Str))++((toString (n:Int):String):Str))++w3).length≤2200:=by rw [strLen_append];omega
 exact ⟨by omega,joinParts_nil ⟨.str _,H3,I3.tok _,⟨_,rfl⟩,q3 _⟩ (by omega)⟩
end
theorem pU {P:Program} {w:World} {H:Hp} {h:Heap} {φ:Heap→Prop} {e:Addr} (x:HOk P w H h) (he:H e=some (.ext φ)):HOk P w (unt H e) h:=fun b o q=>by
 have nb:b≠e:=by
  intro z
  rw [z,cJ] at q
  cases q
 rw [bY nb] at q
 refine (x b o q).stay (fun _ _ _ r=>r) (fun c r=> ?_) (fun c xs r=> ?_)
 · rw [bY]
   · exact r
   · intro z
     rw [z,he] at r
     cases r
 · rw [bY]
   · exact r
   · intro z
     rw [z,he] at r
     cases r
noncomputable def CXF (P:Program) (w:World):CXT:=fun outer H s E e s'=>∃a d:Addr,e= .ref a∧HasD a (some d) s'.heap∧CX1 P w outer H s (fun c _ H'=>E c (some d) H') e s'
def lJ (X:Cx) (E:XK):Prop:=∀(pins:List (Addr×Obj)) (σ:St) (H:Hp) (s:Shared) (e C d:Addr),Inv X pins σ H s→H e=some (Exf C e d)→X.s₀.heap.get? e=none→E (.ref C) (some d) (unt H e)→X.xe (.ref e) s
section
variable {X:Cx} {C fI:Addr} {E:XK} {pos:Pos} {ce:Expr} {te:TE}
def pV (s₀:Shared) (C:Addr) (E:XK) (te:TE):TS:=fun _ σ H=>te σ H fun v H1=>∃e d,v= .ref e∧H1 e=some (Exf C e d)∧s₀.heap.get? e=none∧E (.ref C) (some d) (unt H1 e)
theorem lW (hc:X.calm=true) (hX:XCls X.K C fI) (he:PE X ce te) (hx:lJ X E):PS X (.Raise (some ce) none pos) (pV X.s₀ C E te):=by
 intro pins s σ H D I h
 obtain ⟨nm,q,N,bs,bm,hdct,sn,sub,ab,col,dd,k0,k1,k2,k3,k5,hC,hl⟩:=hX.ex
 have hcB:=(hl.cons (C:=C)).top
 show wpAny (model X.prog X.w) X.A (do standAt pos;raiseStmt X.env (some (do let v←eval ce X.env;standAt pos;pure v)) none) _ _ s
 refine wpAny_bind (wpAny_standAt ?_)
 unfold raiseStmt
 refine wpAny_bind (wpAny_bind (thn (he pins s σ H _ I h) fun v s1 ⟨x,H1,I1,r1,e,d,ex,hH,hn,q1⟩=>wpAny_bind (wpAny_standAt (wpAny_pure ?_))))
 subst ex
 cases (show v=Value.ref e from r1)
 obtain ⟨⟨t0,oE⟩,_⟩:=(show ObjOk X.prog X.w H1 s1.heap e (Exf C e d) from I1.hok e _ hH)
 have oC:=I1.kIn _ _ hC
 have fin:=hx pins σ H1 s1 e C d I1 hH hn q1
 have hh:=I.ok.hd hc
 clear I1 h I
 obtain ⟨hp,g,dr,tk,os⟩:=s1
 repeat (first|with_reducible refine wpAny_loadPart_at oE ?_|with_reducible refine wpAny_loadPart_at oC ?_|(with_reducible refine wpAny_isSubtype_exc oC ?_;rw [hcB])|wp_step)
 exact wpAny_raiseNew_none hh fin
end
theorem n8 {P:Program} {w:World} {K:PySem.W.Frag} {mg:Str→Option Value} {base:Heap} {N:List Str} {qual:Str} {scope:Scope} {f:Addr} {cd:Value} {A:Around} {outer:List Env} {s:Shared} {H:Hp} {E:XK}:
 lJ (cxOf (CXF P w) P w K mg base N qual scope f cd A outer s H E) E:=by
 intro pins σ H1 s1 e C d I hH hn hE
 obtain ⟨⟨t0,oE⟩,_⟩:=(show ObjOk P w H1 s1.heap e (Exf C e d) from I.hok e _ hH)
 have stk:s1.heap.FunFrames base (envOfC qual scope s.heap.objs.size f cd::outer):=I.stack
 have fre:∀b∈frs (envOfC qual scope s.heap.objs.size f cd::outer),H1 b=none:=I.stkFree
 have hfl:(envOfC qual scope s.heap.objs.size f cd).frame=some s.heap.objs.size:=rfl
 have hin:∀env∈(envOfC qual scope s.heap.objs.size f cd::outer),∀b,env.frame=some b→b∈e::frs (envOfC qual scope s.heap.objs.size f cd::outer):=fun env he b hb=>uX _ (List.mem_filterMap.mpr ⟨env,he,hb⟩)
 have kB:∀b o,s1.heap.get? b=some o→b≠e→b∉frs (envOfC qual scope s.heap.objs.size f cd::outer)→(PySem.W.hideAll s1.heap (e::frs (envOfC qual scope s.heap.objs.size f cd::outer))).get? b=some o:=fun b o q h1 h2=>
  PySem.W.hideAll_get _ q fun z=>by
   rcases vd.mp z with z|z
   · exact h1 z
   · exact h2 z
 have nL:∀b o,s.heap.get? b=some o→b≠s.heap.objs.size:=fun b o q=>vf (Heap.lt_size q)
 have nfr:∀b o,s.heap.get? b=some o→b∉frs outer→b∉frs (envOfC qual scope s.heap.objs.size f cd::outer):=fun b o q h2 z=>by
  rcases frs_cons.mp z with z|z
  · rw [hfl] at z
    exact nL b o q (vk z).symm
  · exact h2 z
 have ne:∀b o,s.heap.get? b=some o→b≠e:=fun b o q z=>by
  rw [z] at q
  have hn':s.heap.get? e=none:=hn
  rw [hn'] at q
  cases q
 refine qK (bh:=PySem.W.hideAll s1.heap (e::frs (envOfC qual scope s.heap.objs.size f cd::outer))) (a1:= .ref t0) (ob:= {cls:= .ref C,dict:=some d,data:= .fields #[.ref t0, .none, .none, .none, .bool false, .none]}) (fr:=s.heap.objs.size)
  I.ok.frames (PySem.W.funFrames_hide stk hin) hfl oE (fun b o q=>PySem.W.of_hideAll _ q) (PySem.W.hideAll_none _ v7) rfl rfl rfl fun h' fl z4 hD=> ?_
 have un:Un (frs outer) [] H H1 s.heap s1.heap:=I.base
 refine ⟨e,d,rfl,hD,e,C, .ref t0,_,unt H1 e,rfl,I.os,I.bare,hn,cJ,?_,fl,?_,?_,?_,?_,?_,?_,?_,hE⟩
 · intro b o q
   have nb:b≠e:=by
    intro z
    rw [z,cJ] at q
    cases q
   refine (pU I.hok hH b o q).stay (fun c v hc r=>kB c v r ?_ ?_) (fun _ r=>r) fun _ _ r=>r
   · rcases hc with z|z
     · rw [z]
       exact nb
     · intro y
       rw [y,cJ] at z
       cases z
   · intro y
     have y':=fre c y
     rcases hc with z|z
     · rw [bY nb,←z,y'] at q
       cases q
     · by_cases ce:c=e
       · rw [ce,cJ] at z
         cases z
       · rw [bY ce,y'] at z
         cases z
 · intro b o q n hb
   exact kB b o (un.keep b o q n hb (by simp)) (ne b o q) (nfr b o q hb)
 · intro b o q n hb
   obtain ⟨sl,e1⟩:=un.slot b o q n hb (by simp)
   have nd:=(stk.mem (b:=b) (frs_cons.mpr (.inr hb))).2
   obtain ⟨o1,e2,d2⟩:=nd
   rw [e1] at e2
   cases e2
   obtain ⟨sl',e3⟩:=z4 b _ e1 d2
   exact ⟨sl',e3⟩
 · intro b o q n
   rw [bY (ne b o q)]
   exact un.free b o q n (by simp)
 · intro b o q hb
   obtain ⟨o',e1⟩:=un.there b o q (by simp)
   exact ⟨o',kB b o' e1 (ne b o q) (nfr b o q hb)⟩
 · intro b xs q
   have q1:=un.tups b xs q
   rw [bY]
   · exact q1
   · intro z
     rw [z,hH] at q1
     cases q1
 · intro b o u q
   have q1:=un.frzs b o u q
   rw [bY]
   · exact q1
   · intro z
     rw [z,hH] at q1
     cases q1
 · intro b ps q
   obtain ⟨more,q1⟩:=un.tbls b ps q
   refine ⟨more,?_⟩
   rw [bY]
   · exact q1
   · intro z
     rw [z,hH] at q1
     cases q1
noncomputable def Cauf (C a d:Addr):HO:= .ext fun h=>∃o vs,h.get? a=some o∧o.cls= .ref C∧o.dict=some d∧o.data= .fields vs
theorem r6 {P:Program} {w:World} {H:Hp} {h:Heap} {C a d:Addr} {o:Obj} {vs:Array Value} (x:h.get? a=some o) (c:o.cls= .ref C) (e:o.dict=some d) (v:o.data= .fields vs):ObjOk P w H h a (Cauf C a d):=
 ⟨⟨o,vs,x,c,e,v⟩,⟨_,x⟩,fun _ _ ⟨o',vs',y,c',e'⟩ k=>⟨o',vs',k _ y,c',e'⟩⟩
section
variable {X:Cx} {body suite:List Stmt} {b0:Stmt} {tb:TSX} {ts:TS} {i:Nat} {n cx:Str} {np hpos pos:Pos} {W:Addr}
def ua (K:PySem.W.Frag) (W:Addr) (i:Nat) (tb:TSX) (ts:TS):TS:=fun D σ H=>tb D (fun cls dd H'=>∃C d,cls= .ref C∧dd=some d∧PySem.W.exmOne K (.ref C) (.ref W)=some true∧
 ∀a,H' a=none→ts {nx:=fun σ' H''=>D.nx (σ'.set i none) H'',rt:=fun _ _=>False} (σ.set i (some (.ref a))) (upd H' a (Cauf C a d))) σ H
theorem qi (hstk:X.stack=X.env::X.outer) (hfr:X.env.frame=some X.env.locals) (hN:X.N.Nodup) (hi:X.N[i]?=some n) (hn:X.env.scope.names.lookup n=some .local) (hg:Gl X cx) (hm:X.mg cx=some (.ref W))
 (hb:PSX X (CXF X.prog X.w) body tb) (hs:∀a,PSs (X.caught a) (b0::suite) ts) (hd:(cx==("__debug__":Str))=false:=by decide):
 PS X (.Try body [.ExceptHandler (some (.Name cx np)) (some n) (b0::suite) hpos] [] [] pos) (ua X.K W i tb ts):=by
 intro pins s σ H D I h
 show wpAny _ _ (do standAt pos;tryStmt false (execs body X.env) [.ExceptHandler (some (.Name cx np)) (some n) (b0::suite) hpos] (execs [] X.env) [] X.env) _ _ s
 refine wpAny_bind (wpAny_standAt (wpAny_tryStmt_except (wpAny_mono (hb pins s σ H D _ I h) (fun f s1 q=> ?_) fun e s1 ⟨H0,s0,I0,cxq⟩=> ?_)))
 · cases f with
   |next=>exact wpAny_execs_nil q
   |brk=>exact q
   |cont=>exact q
   |ret v=>exact q
 · obtain ⟨a,d,rfl,hD,a',C,a0,B,H',ea,os,bare,nA,nH,okB,fl,kB,slB,frB,thB,tu,fz,tbb,C',d',eC,ed,hx,hsu⟩:=cxq
   cases ea
   cases eC
   cases ed
   have fl':=fl
   rw [hstk] at fl'
   have inv:∀h6,Heap.FlyingW B X.stack a (.ref C) a0 h6→s1.heap.UpToSlots h6→Inv X pins σ (upd H' a (Cau C a)) {s1 with heap:=h6}:=fun h6 q1 q2=>I0.flown os bare nA nH okB kB slB frB thB tu fz tbb fl q1 q2
   refine qI (fr:=X.env.locals) (by rw [I0.ok.frames,hstk]) hfr fl' hD fun h4 st4 ff4 tr4 sm4 hD4=> ?_
   refine ft (s:= {s1 with heap:=h4}) st4 fl'.2.1 ff4 tr4 hD4 fun h5 fl5 sm5 hD5=> ?_
   have sm45:s1.heap.UpToSlots h5:=sm4.trans sm5
   have I5:=inv h5 (by rw [hstk];exact fl5) sm45
   refine wpAny_handleBy_cons (codeAny_handlers_test (cX (X:=X.caught a) (I5.caught a) hg hm ?_ hd)) (by intro q;cases q)
   obtain ⟨ob,hob,hoc⟩:=fl5.there
   have LT:PySem.W.Looks (model X.prog X.w) h5 (typeOf (.ref a)) (.ref C):=by
    have:=((PySem.W.Looks.ld (M:=model X.prog X.w) (part:=some headPart) hob).andThen (f:=fun o=>pure o.cls) .now)
    rw [hoc] at this
    exact this
   refine (PySem.W.exm_one (K:=X.K) (h:=h5) I5.kIn LT hx).here (codeAny_handlers_suite_as ?_)
   refine ft (s:= {s1 with heap:=h5}) fl5.1 fl5.2.1 fl5.2.2.1 fl5.2.2.2.at hD5 fun h6 fl6 sm6 hD6=> ?_
   have I6:=inv h6 (by rw [hstk];exact fl6) (sm45.trans sm6)
   obtain ⟨o6,v6,g6,c6,f6,_⟩:=fl6.first
   have d6:o6.dict=some d:=by
    obtain ⟨o7,g7,e7⟩:=hD6
    have g7':h6.get? a=some o7:=g7
    rw [g6] at g7'
    cases g7'
    exact e7
   have I6':=I6.write (x:=a) (e:=a) (o:=Cauf C a d) (h':=h6) (t':=s1.toks) (by rw [aa];exact True.intro) (.inl rfl) (fun _ _ _ r=>r) ⟨_,g6⟩ (r6 g6 c6 d6 f6)
   rw [pS] at I6'
   refine cp (X:=X.caught a) (v:= .ref a) (I6'.caught a) hN hi (.inl hn) rfl (fun s7 I7=> ?_) (.inr hn)
   refine wpAny_noRaise (wpAny_mono (hs a pins s7 _ _ _ I7 (hsu a nH)) (fun fl s8 q8=> ?_) fun _ _ z=>z)
   cases fl with
   |next=>
    obtain ⟨σ8,H8,I8,z8⟩:=q8
    have I8':=I8.uncaught I.ok
    obtain ⟨m,hnm,hlm⟩:=id I8'.loc
    refine wpAny_nameGoes_keeps hn hnm (by rw [I.ok.kind];rfl) fun h9 v9 hn9 sb9=> ?_
    refine ⟨σ8.set i none,H8,I8'.goes sb9 (by simp) ⟨_,hn9,fun j y v' e1 e2 e3=> ?_⟩,z8⟩
    have hj:j≠i:=fun z=>by
     subst z
     rw [List.getElem?_set] at e2
     simp at e2
    rw [List.getElem?_set_ne (Ne.symm hj)] at e2
    obtain ⟨u,r,q⟩:=hlm j y v' e1 e2 e3
    refine ⟨u,r,?_⟩
    rcases q with ⟨k,e⟩|⟨k,c,e,z⟩
    · refine .inl ⟨k,?_⟩
      have ne:y≠n:=fun e=>hj (ff hN e1 (e▸hi))
      dsimp only
      rw [if_neg ne]
      exact e
    · exact .inr ⟨k,c,e,z.sameBut sb9 (I8'.cne y c e)⟩
   |brk=>obtain ⟨_,_,_,z⟩:=q8;exact z.elim
   |cont=>obtain ⟨_,_,_,z⟩:=q8;exact z.elim
   |ret u=>obtain ⟨_,_,_,_,_,z⟩:=q8;exact z.elim
end
section
variable {X:Cx}
def rIsf (K:PySem.W.Frag):List V→Hp→VK→Prop:=fun xs H Q=>∃a c C d b,xs= [.ref a,c]∧H a=some (Cauf C a d)∧XIs K C∧
 ((gz c=true∧PySem.W.kitOne K (.ref C) (clsV c)=some b)∨(∃p ys,c= .ref p∧H p=some (.tup ys)∧ys.all gz=true∧PySem.W.kitAny K (.ref C) (ys.map clsV)=some b))∧Q (.bl b) H
theorem c8:cV X (.builtin "isinstance") (rIsf X.K):=by
 intro pins s σ H xs us Q I r h
 obtain ⟨a,c,C,d,b,e,ha,Z,h,q⟩:=h
 subst e
 cases r with
 | @cons _ u _ _ rx r=>
  cases r with
  | @cons _ v _ _ rc r=>
   cases r
   cases (show u=Value.ref a from rx)
   obtain ⟨⟨o,_,h1,h2,_⟩,_⟩:=(show ObjOk X.prog X.w H s.heap a (Cauf C a d) from I.hok a _ ha)
   have hp:(fun h:Heap=>∃o,h.get? a=some o∧o.cls= .ref C) s.heap:=⟨o,h1,h2⟩
   rcases h with ⟨hc,hk⟩|⟨p,ys,e,hH,hall,hk⟩
   · cases io rc hc
     exact PySem.W.kia_one (fj Z) I.kIn hp hk (fun z=>nomatch z) fun tk=>⟨.bl b,H,I.tok tk,rfl,q⟩
   · subst e
     cases (show v=Value.ref p from rc)
     obtain ⟨_,its,rv,⟨oc,od,oda,osl⟩,h1,h2,n,h3⟩:=(show ObjOk X.prog X.w H s.heap p (.tup ys) from I.hok p _ hH)
     dsimp only at h2 h3
     subst h2 h3
     cases fJ rv hall
     exact PySem.W.kia_tup (fj Z) I.kIn hp h1 hk (fun z=>nomatch z) fun tk=>⟨.bl b,H,I.tok tk,rfl,q⟩
end
end L2
namespace L2
section
open PySem PySem.W Builtin Builtin.ObjectAttr
variable {prog:Program} {w:World} {A:Around} {E:Value→Shared→Prop} {h:Heap} {g:Array GenState} {d:Drawn} {t:Nat} {os:OsState} {a C dx:Addr} {o:Obj} {K:Frag} {f:Str} {v:Value} {m:Str→Option Value}
theorem mw {b:Bool} {Q:Value→Shared→Prop} (Z:XIs K C) (X:K.In h) (hp:cq K C=true) (hn:findIn K (.ref C) f=some none) (hx:h.get? a=some o) (hc:o.cls= .ref C) (hd:o.dict=some dx) {vs:Array Value} (hf:o.data= .fields vs) (hN:h.Ns dx m) (hv:m f=some v) (hh:handedIn v=true)
 (z:∀t',Q v ⟨h,g,d,t',os⟩):wpAny (model prog w) A (getAttr (.ref a) f b) Q E ⟨h,g,d,t,os⟩:=by
 have f3:=PySem.F.excAttr_ValueError.ga.bind (.ref a)
 have hx0:(b&&onTheHeap (Value.builtin "BaseException.__getattribute__"))=false:=by cases b<;>rfl
 have b2:(Value.builtin "BaseException.__getattribute__"==Value.builtin "object.__getattribute__")=false:=by decide +kernel
 have b1:(onTheHeap (Value.ref C)&&Value.builtin "BaseException.__getattribute__"==Value.builtin "object.__getattribute__")=false:=by rw [b2];rfl
 unfold getAttr
 refine wpAny_bind (wpAny_mkText ?_)
 unfold getAttrBy
 repeat
  any_goals
   first
   |assumption
   |(with_reducible refine wpAny_loadPart_at hx ?_;rw [hc])
   |with_reducible refine bX X Z.ga ?_
   |with_reducible refine bX X Z.hook ?_
   |wp_step
 refine codeAny_call_builtin PySem.F.excAttr_ValueError.ga.plain PySem.F.entry_bexc_ga (oJ Z X hx hc ?_)
 repeat
  any_goals
   first
   |assumption
   |(with_reducible refine wpAny_loadPart_at hx ?_;rw [hc])
   |with_reducible refine bX X hn ?_
   |wp_step
 rw [hf]
 show wpAny _ _ (instanceDict a false) _ _ _
 obtain ⟨cd,hcd,hpl⟩:=any_some hp
 rw [v4] at hpl
 unfold instanceDict
 refine wpAny_bind (wpAny_loadPart_at hx ?_)
 rw [hc]
 refine wpAny_bind (PySem.W.Looks.here (s:=⟨h,g,d,t+1,os⟩) (looks_clsIn X hcd) ?_)
 rw [hpl.2,hd]
 refine wpAny_pure ?_
 refine wpAny_nsGet hN ?_
 rw [hv]
 repeat
  any_goals
   first
   |assumption
   |wp_step
 show wpAny _ _ (handedOut v) _ _ _
 rw [handedOut_of hh]
 exact wpAny_pure (z _)
end
open PySem PySem.Spec PyProof.Rows
section
variable {X:Cx} {e:Expr} {pos:Pos} {f:Str} {ta:TE}
def ud (K:PySem.W.Frag) (ta:TE) (f:Str):TE:=fun σ H Q=>ta σ H fun x H1=>∃a C d fs v,x= .ref a∧H1 a=some (Cauf C a d)∧H1 d=some (.xd fs)∧XIs K C∧cq K C=true∧PySem.W.findIn K (.ref C) f=some none∧fs.lookup f=some v∧Q v H1
theorem qq (he:PE X e ta) (hb:attributeBase e f X.env (eval e X.env)=eval e X.env):PE X (.Attribute e f pos) (ud X.K ta f):=by
 intro pins s σ H Q I h
 refine rf hb (thn (he pins s σ H _ I h) fun u s1 ⟨x,H1,I1,rx,a,C,d,fs,v,ex,ea,ed,Z,hp,hn,l,q⟩=> ?_)
 subst ex
 cases (show u=Value.ref a from rx)
 obtain ⟨⟨o,vs,h1,h2,h3,h4⟩,_⟩:=(show ObjOk X.prog X.w H1 s1.heap a (Cauf C a d) from I1.hok a _ ea)
 obtain ⟨mA,n1,r⟩:=(show ObjOk X.prog X.w H1 s1.heap d (.xd fs) from I1.hok d _ ed)
 obtain ⟨w',hw,rw'⟩:=RelO.some_of (v:=v) (o:=mA f) (by rw [←l];exact r f)
 obtain ⟨hh,g,dr,tk,os⟩:=s1
 exact mw Z I1.kIn hp hn h1 h2 h3 h4 n1.ns hw (ml rw') fun t'=>⟨v,H1,I1.tok t',rw',q⟩
end
end L2
namespace L2
open PySem PySem.Spec PyProof.Rows Zp
def Ite (K:PySem.W.Frag) (a:Addr):It:=
 ⟨fun i H=>∃xs x,SqL K H a xs∧xs[i]?=some x,
  fun i H v H'=>∃T x,v= .ref T∧H T=none∧H'=upd H T (.tup [.int i,x])∧(∀xs,SqL K H a xs→xs[i]?=some x)∧i < sizeLine,
  fun i H=>∃xs,SqL K H a xs∧xs.length≤i⟩
theorem lM {P:Program} {w:World} {K:PySem.W.Frag} {es:List Expr} {kk:Nat} {pos:Pos} (a e it:Addr) (hd:e≠it):
 Turn P w K (.Tuple es kk pos) (Ite K a) [e,it] e (fun i h=>(∃old,IsEnum h e it i old)∧h.IsListIter it a i∧a∉ [e,it]) where
 mem:=by simp
 obj:=fun i h ⟨⟨u,h1⟩,h2,_⟩ c hc=>by
  simp only [vd,vN,or_false] at hc
  rcases hc with rfl|rfl
  · exact ⟨_,h1,fun v e=>by cases (show Data.fields _=Data.cell v from e)⟩
  · obtain ⟨o,e1,_,e3⟩:=h2
    exact ⟨o,e1,fun v e=>by rw [e3] at e;cases e⟩
 keep:=fun i h h' ⟨⟨u,h1⟩,h2,h3⟩ kp=>⟨⟨u,kp e (by simp) _ h1⟩,h2.at fun o x=>kp it (by simp) o x,h3⟩
 item:=by
  intro X hP hw hK hc i pins s σ H E I hf ⟨⟨u0,h1⟩,h2,h6⟩ hg
  subst hP hw hK
  obtain ⟨xs,x,g1,g3⟩:=hg
  obtain ⟨as,r1,p1,z1⟩:=I.list g1
  obtain ⟨u,e1,q1⟩:=r1.get g3
  have p1:=p1.isList
  simp only [vd,vN,or_false,not_or] at h6
  refine wpAny_pyNext_enum_item h1 h2 p1 (x:=u) (by simpa using e1) hd fun h' a1 a3 a5 a6 up=>⟨_,rfl,?_⟩
  refine wpAny_letOwnedTupleGo_enum (s:= {s with heap:=h',toks:=s.toks+1}) a1 fun h'' b1 sb=> ?_
  have fr:H s.heap.objs.size=none:=I.hok.fresh (uW _)
  have lt:∀ {c:Addr} {o:Obj},s.heap.get? c=some o→c≠s.heap.objs.size:=fun e=>vf (Heap.lt_size e)
  have all:∀c o,c∉ [e,it]→s.heap.get? c=some o→h''.get? c=some o:=fun c o n ee=>by
   simp only [vd,vN,or_false,not_or] at n
   exact sb.extBut c o n.1 (up c o n.1 n.2 ee)
  have nz:s.heap.objs.size≠e:=(lt h1).symm
  have pT:h''.get? s.heap.objs.size=some {cls:= .type "tuple",data:= .seq #[.int i s.toks,u]}:=sb.extBut _ _ nz a5
  have fp:∀b∈ [e,it],upd H s.heap.objs.size (.tup [.int i,x]) b=none:=fun c hc=>by
   have nc:c≠s.heap.objs.size:=by
    simp only [vd,vN,or_false] at hc
    rcases hc with rfl|rfl
    · exact lt h1
    · obtain ⟨o,ee,_⟩:=h2
      exact lt ee
   rw [aj nc]
   exact (hf c hc).1
  refine ⟨.ref s.heap.objs.size,upd H s.heap.objs.size (.tup [.int i,x]),?_,rfl,⟨_,x,rfl,fr,rfl,fun zs hz=> ?_,v8 (vg.mp g3).1 z1⟩,⟨⟨u,by simpa using b1⟩,?_,?_⟩,fp⟩
  ·
   refine I.call' (s':= {s with heap:=h'',toks:=s.toks+1}) (ch:= [e,it]) rfl ⟨fun b o e _ _ hx=>all b o hx e,fun b o e _ _ hx=>⟨o.slots,all b o hx e⟩,fun c o e n _=>by rw [aj (lt e)];exact n,fun b o e hx=>⟨o,all b o hx e⟩,fun c zs e=>by rw [aj (aI e fr)];exact e,fun c o zs e=>by rw [aj (aI e fr)];exact e,fun c ps e=>⟨#[],by rw [aj (aI e fr),e];simp⟩⟩ ?_ I.bare fun b hb=> ?_
   · intro c o ee
     by_cases hcT:c=s.heap.objs.size
     · subst hcT
       rw [aa] at ee
       cases ee
       exact ⟨by show 2≤sizeLine;decide,[.int i s.toks,u], .cons ⟨_,rfl⟩ (.cons q1 .nil),⟨_,pT,rfl,_,rfl⟩⟩
     · rw [aj hcT] at ee
       have nb:∀c u,H c=some u→c∉ [e,it]:=fun c u e hz=>by rw [(hf c hz).1] at e;cases e
       refine (I.hok c o ee).stay (fun d v hc q=>all d v ?_ q) (fun d q=> ?_) fun d m q=> ?_
       · rcases hc with hz|hz
         · rw [hz];exact nb c o ee
         · exact nb d _ hz
       · rw [aj (aI q fr)];exact q
       · rw [aj (aI q fr)];exact q
   · obtain ⟨g0,g1,g2,g3,g4,g5⟩:=hf b hb
     exact ⟨g3,g1,g4,g5⟩
  · rw [I.list_inj hz g1];exact g3
  · exact a3.extBut sb.extBut hd.symm
  · simpa using h6
 done:=by
  intro X hP hw hK hc i pins s σ H E I hf ⟨⟨u0,h1⟩,h2,h6⟩ hg
  subst hP hw hK
  obtain ⟨xs,g1,g3⟩:=hg
  obtain ⟨as,r1,p1,z1⟩:=I.list g1
  have hl:=r1.length
  refine wpAny_pyNext_enum_end (I.ok.hd hc) h1 h2 p1.isList (by simp;omega) fun h' up=>⟨rfl,I.turneds (t':=s.toks) (fun c o n ee=> ?_) hf⟩
  simp only [vd,vN,or_false,not_or] at n
  exact up c o n.2 ee
 self:=fun _ _ _ _ _ st h=>by
  obtain ⟨⟨u,h1⟩,_⟩:=st
  exact wpAny_pyIter_enum h1 h
section
variable {X:Cx}
def uL (K:PySem.W.Frag) (ta:TA):TI:=fun σ H R=>ta σ H fun vs H1=>∃a xs,vs= [.ref a]∧SqL K H1 a xs∧R (Ite K a) H1
theorem qm {es:List Expr} {kk:Nat} {pt:Pos} {x:Expr} {ta:TA} {p pos:Pos} (hg:Gl X "enumerate") (hm:X.mg "enumerate"=none) (ha:PA X [x] ta) (hs:starEach [x] X.env= [(false,eval x X.env)]:=by rfl):
 PI X (.Tuple es kk pt) (.Call (.Name "enumerate" p) [x] [] pos) (uL X.K ta):=by
 intro pins s σ H R I h
 refine Call_ (cT I hg hm PyProof.Rows.boot_enumerate (PyProof.Rows.callWith_type1 (thn (ha pos pins s σ H _ I h) fun us s1 ⟨vs,H1,I1,r1,q1⟩=> ?_) (by rw [hs];rfl) rfl))
 obtain ⟨a,xs,e,k1,q⟩:=q1
 subst e
 cases r1 with
 |cons r rr=>
  cases rr
  cases r
  obtain ⟨as,_,p1,_⟩:=I1.list k1
  have p1:=p1.isList
  have lta:a < s1.heap.objs.size:=by
   obtain ⟨o,e,_⟩:=p1
   exact Heap.lt_size e
  refine call_enumerate_list p1 fun h' h1 h2 sz up=> ?_
  refine wpAny_pyIter_enum (s:= {s1 with heap:=h'}) h1 ?_
  have na:∀j,a≠s1.heap.objs.size+j:=fun j=>vf (v8 lta (Nat.le_add_right ..))
  have le:∀c∈ [s1.heap.objs.size+1,s1.heap.objs.size+0],s1.heap.objs.size≤c:=fun c hc=>by
   simp only [vd,vN,or_false] at hc
   rcases hc with rfl|rfl<;>exact Nat.le_add_right ..
  refine ⟨s1.heap.objs.size+1,[s1.heap.objs.size+1,s1.heap.objs.size+0],_,_,H1,rfl,I1.kept (t':=s1.toks) up,lM a _ _ (by simp),⟨⟨_,h1⟩,h2,?_⟩,fun c hc=>I1.fpOk (le c hc) (I1.hok.fresh (le c hc)),q⟩
  simp only [vd,vN,or_false,not_or]
  exact ⟨na 1,na 0⟩
end
end L2
namespace L2
open PySem
theorem p7 {K:PySem.W.Frag} {a:Addr} {xs:List V} {g:TG} {tb:TS} {D:Ends} {σ:L2.St} {H:Hp} (Pv:Nat→L2.St→Hp→Prop) (h0:Pv 0 σ H) (hl:∀i σ H,i≤xs.length→Pv i σ H→SqL K H a xs)
 (hs:∀i T x σ H,xs[i]?=some x→H T=none→Pv i σ H→g (.ref T) σ (upd H T (.tup [.int i,x])) fun σ2 H2=>tb {D with nx:=Pv (i+1),ct:=Pv (i+1),bk:=D.nx} σ2 H2) (hd:∀σ H,Pv xs.length σ H→D.nx σ H):
 ∃W:Nat→Nat→L2.St→Hp→Prop,(∃m,W 0 m σ H)∧∀i m σ H,W i m σ H→
  ((Ite K a).stop i H∧D.nx σ H)∨((Ite K a).go i H∧∃N:L2.St→Hp→Prop,(∀σ' H',N σ' H'→∃m',m' < m∧W (i+1) m' σ' H')∧∀x H',(Ite K a).yld i H x H'→g x σ H' fun σ2 H2=>tb {D with nx:=N,ct:=N,bk:=D.nx} σ2 H2):=by
 refine ⟨fun i m σ H=>m=xs.length - i∧i≤xs.length∧Pv i σ H,⟨xs.length,by simp,vF _,h0⟩,?_⟩
 rintro i m σ H ⟨rfl,hi,p⟩
 have q:=hl i σ H hi p
 by_cases hlt:i < xs.length
 · refine .inr ⟨⟨xs,xs[i],q,by simp [hlt]⟩,Pv (i+1),fun σ' H' p'=>⟨xs.length - (i+1),by omega,rfl,hlt,p'⟩,fun x H' y=> ?_⟩
   obtain ⟨T,x',rfl,nT,rfl,y1,_⟩:=y
   exact hs i T x' σ H (y1 xs q) nT p
 · have e:i=xs.length:=by omega
   subst e
   exact .inl ⟨⟨xs,q,uW _⟩,hd σ H p⟩
end L2
namespace K85
open PySem PySem.NumText L2 Mth Dec Tre Wd Spl Dj
noncomputable def hasE (es:List Et) (e:Et):Bool:= @decide (∃a∈es,a.pl=e.pl∧a.key=e.key) (Classical.propDecidable _)
theorem has_t {es:List Et} {e:Et}:hasE es e=true↔∃a∈es,a.pl=e.pl∧a.key=e.key:=by
 unfold hasE
 exact @decide_eq_true_iff _ (Classical.propDecidable _)
noncomputable def kyJ:Et→List Tk.KT
 | .ca x ps _=> [.lf (.inr x), .tp (ps.map frK)]
 |_=> []
theorem qS {p q:Fr} (h:frK p=frK q):p=q:=by
 unfold frK at h
 injection h with h
 injection h with h1 h2
 injection h2 with h2 _
 injection h1 with h1
 injection h1 with h1
 injection h2 with h2
 injection h2 with h2
 exact Prod.ext h1 h2
theorem j2:∀ {ps qs:List Fr},ps.map frK=qs.map frK→ps=qs
 | [],[],_=>rfl
 | [],q::qs,h=>by cases h
 |p::ps,[],h=>by cases h
 |p::ps,q::qs,h=>by
  rw [uZ,uZ] at h
  injection h with h1 h2
  rw [qS h1,j2 h2]
theorem qQ {p q:Fr} (h:frT p=frT q):p=q:=by
 unfold frT at h
 injection h with h
 injection h with h1 h2
 injection h2 with h2 _
 injection h1 with h1
 injection h2 with h2
 exact Prod.ext h1 h2
theorem j1:∀ {ps qs:List Fr},ps.map frT=qs.map frT→ps=qs
 | [],[],_=>rfl
 | [],q::qs,h=>by cases h
 |p::ps,[],h=>by cases h
 |p::ps,q::qs,h=>by
  rw [uZ,uZ] at h
  injection h with h1 h2
  rw [qQ h1,j1 h2]
theorem ig {a b:Et} (ha:a.pl=2) (hb:b.pl=2):kyJ a=kyJ b↔a.key=b.key:=by
 cases a with
 |fl x=>cases ha
 |nm x p=>cases ha
 |ca x ps p=>
  cases b with
  |fl x=>cases hb
  |nm x p=>cases hb
  |ca y qs q=>
   constructor
   · intro h
     simp only [kyJ] at h
     injection h with h1 h2
     injection h2 with h2 _
     injection h1 with h1
     injection h1 with h1
     injection h2 with h2
     simp only [Et.key]
     rw [h1,j2 h2]
   · intro h
     simp only [Et.key] at h
     injection h with h
     injection h with h1 h2
     injection h2 with h2 _
     injection h1 with h1
     injection h2 with h2
     simp only [kyJ]
     rw [h1,j1 h2]
inductive PK (H:Hp):List (Key×V)→List Et→Prop
 |nil:PK H [] []
 |cons {x:Str} {v:V} {e:Et} {ks:List (Key×V)} {es:List Et}:e.key= .str x→TrAt H v e.val→PK H ks es→PK H ((.inr x,v)::ks) (e::es)
inductive PJ (H:Hp):List Ent→List Et→Prop
 |nil:PJ H [] []
 |cons {b:Addr} {v:V} {e:Et} {ks:List Ent} {es:List Et}:TrAt H v e.val→PJ H ks es→PJ H ((kyJ e,b,v)::ks) (e::es)
theorem PK.mono {H H':Hp} (k:Kd H H') {ks:List (Key×V)} {es:List Et} (h:PK H ks es):PK H' ks es:=by
 induction h with
 |nil=>exact .nil
 |cons h1 h2 _ ih=>exact .cons h1 (h2.mono k) ih
theorem PJ.mono {H H':Hp} (k:Kd H H') {ks:List Ent} {es:List Et} (h:PJ H ks es):PJ H' ks es:=by
 induction h with
 |nil=>exact .nil
 |cons h1 _ ih=>exact .cons (h1.mono k) ih
theorem PK.snoc {H:Hp} {x:Str} {v:V} {e:Et} (h1:e.key= .str x) (h2:TrAt H v e.val) {ks:List (Key×V)} {es:List Et} (h:PK H ks es):PK H (ks++ [(.inr x,v)]) (es++ [e]):=by
 induction h with
 |nil=>exact .cons h1 h2 .nil
 |cons a1 a2 _ ih=>exact .cons a1 a2 ih
theorem PJ.snoc {H:Hp} {b:Addr} {v:V} {e:Et} (h2:TrAt H v e.val) {ks:List Ent} {es:List Et} (h:PJ H ks es):PJ H (ks++ [(kyJ e,b,v)]) (es++ [e]):=by
 induction h with
 |nil=>exact .cons h2 .nil
 |cons a2 _ ih=>exact .cons a2 ih
theorem PK.len {H:Hp} {ks:List (Key×V)} {es:List Et} (h:PK H ks es):ks.length=es.length:=by
 induction h with
 |nil=>rfl
 |cons _ _ _ ih=>rw [uU,uU,ih]
theorem PJ.len {H:Hp} {ks:List Ent} {es:List Et} (h:PJ H ks es):ks.length=es.length:=by
 induction h with
 |nil=>rfl
 |cons _ _ ih=>rw [uU,uU,ih]
theorem PK.look {H:Hp} {ks:List (Key×V)} {es:List Et} (h:PK H ks es) (x:Str):(valV ks (.inr x)).isSome=true↔∃e∈es,e.key= .str x:=by
 induction h with
 |nil=>simp [mX]
 | @cons y v e ks es h1 _ _ ih=>
  by_cases q:y=x
  · subst q
    rw [cH (p:=(Sum.inr y,v)) rfl]
    simp [h1]
  · rw [cI (p:=(Sum.inr y,v)) (fun z=>q (Sum.inr.inj z)),ih]
    constructor
    · rintro ⟨e',m,k⟩
      exact ⟨e',uX _ m,k⟩
    · rintro ⟨e',m,k⟩
      rcases vd.mp m with rfl|m
      · rw [h1] at k
        injection k with k
        exact absurd k q
      · exact ⟨e',m,k⟩
theorem PJ.look {H:Hp} {ks:List Ent} {es:List Et} (h:PJ H ks es) (k:List Tk.KT):(valJ ks k).isSome=true↔∃e∈es,kyJ e=k:=by
 induction h with
 |nil=>simp [mY]
 | @cons b v e ks es _ _ ih=>
  by_cases q:kyJ e=k
  · rw [iw (p:=(kyJ e,b,v)) q]
    simp [q]
  · rw [ix (p:=(kyJ e,b,v)) q,ih]
    simp [q]
theorem nU {H:Hp} {es:List Et} {ka kb:List (Key×V)} (ha:PK H ka es) (hb:PK H kb es) (hu:es.Pairwise fun a b=>a.key≠b.key) (hv:∀e∈es,(e.val).pure∧(e.val).depth≤4):SmK H ka kb:=by
 refine ⟨ha.len.trans hb.len.symm,?_⟩
 induction ha generalizing kb with
 |nil=>intro p m;cases m
 | @cons x v e ka es h1 h2 ha ih=>
  cases hb with
  | @cons y u _ kb _ g1 g2 hb=>
   have exy:x=y:=by
    rw [h1] at g1
    injection g1
   subst exy
   have hu':=List.pairwise_cons.mp hu
   intro p m
   rcases vd.mp m with rfl|m
   · exact ⟨u,e.val,cH (p:=(Sum.inr x,u)) rfl,h2,g2,hv e v7⟩
   · obtain ⟨v',t,e1,t1,t2,t3⟩:=ih hb hu'.2 (fun a m=>hv a (uX _ m)) p m
     refine ⟨v',t,?_,t1,t2,t3⟩
     rw [cI (p:=(Sum.inr x,u)) (fun z=> ?_)]
     · exact e1
     ·
      have:(valV kb (.inr x)).isSome=true:=by rw [show (Sum.inr x:Key)=p.1 from z,e1];rfl
      obtain ⟨e',me,ke⟩:=(hb.look x).mp this
      exact hu'.1 e' me (by rw [h1,ke])
theorem sB {H:Hp} {es:List Et} {ka kb:List Ent} (ha:PJ H ka es) (hb:PJ H kb es) (hv:∀e∈es,(e.val).pure∧(e.val).depth≤4):SmJ H ka kb:=by
 refine ⟨ha.len.trans hb.len.symm,?_⟩
 induction ha generalizing kb with
 |nil=>intro p m;cases m
 | @cons b v e ka es h2 ha ih=>
  cases hb with
  | @cons c u _ kb _ g2 hb=>
   intro p m
   rcases vd.mp m with rfl|m
   · exact ⟨0,c,u,e.val,rfl,h2,g2,hv e v7⟩
   · obtain ⟨j,c',v',t,e1,r⟩:=ih hb (fun a m=>hv a (uX _ m)) p m
     exact ⟨j+1,c',v',t,e1,r⟩
theorem ji (e:Et):(e.val).pure∧(e.val).depth≤4:=by
 cases e with
 |fl x=>simp [Et.val,Tr.pure,Tr.depth]
 |nm x p=>simp [Et.val,frT,Tr.pure,Trs.pure,Tr.depth,Trs.depth]
 |ca x ps p=>simp [Et.val,frT,Tr.pure,Trs.pure,Tr.depth,Trs.depth]
def atP (n:Nat) (es:List Et):List Et:=es.filter fun e=>e.pl==n
structure WE (P:Program) (w:World) (K:PySem.W.Frag) (H:Hp) (F D C:Addr) (es:List Et):Prop where
 ex:∃kF kD kC,H F=some (.dK kF)∧PK H kF (atP 0 es)∧H D=some (.dK kD)∧PK H kD (atP 1 es)∧DJ P w K H C kC∧PJ H kC (atP 2 es)
 ne:F≠D
 uq:es.Pairwise fun a b=>¬(a.pl=b.pl∧a.key=b.key)
theorem rD {n:Nat} {es:List Et} (h:es.Pairwise fun a b=>¬(a.pl=b.pl∧a.key=b.key)):(atP n es).Pairwise fun a b=>a.key≠b.key:=by
 have:=List.Pairwise.and_mem.mp (h.filter fun e=>e.pl==n)
 refine this.imp fun {a b} hab q=>hab.2.2 ⟨?_,q⟩
 have h1:=(vq.mp hab.1).2
 have h2:=(vq.mp hab.2.1).2
 rw [eq_of_beq h1,eq_of_beq h2]
section
variable {P:Program} {w:World} {K:PySem.W.Frag} {H H':Hp} {F D C r1 r2 F' D' C':Addr} {es:List Et}
theorem WE.same (h:WE P w K H F D C es) (s:Same H H'):WE P w K H' F D C es:=by
 obtain ⟨kF,kD,kC,h1,h2,h3,h4,h5,h6⟩:=h.ex
 have k:=Kd.of_same s
 exact ⟨⟨kF,kD,kC,s _ _ h1,h2.mono k,s _ _ h3,h4.mono k,h5.kd k (s _ _ h5.at_),h6.mono k⟩,h.ne,h.uq⟩
theorem rC (h1:H r1=some (.tup [.ref F, .ref D, .ref C])) (h2:H r2=some (.tup [.ref F', .ref D', .ref C'])) (a:WE P w K H F D C es) (b:WE P w K H F' D' C' es):W3 P w K H r1 r2:=by
 obtain ⟨kF,kD,kC,a1,a2,a3,a4,a5,a6⟩:=a.ex
 obtain ⟨kF',kD',kC',b1,b2,b3,b4,b5,b6⟩:=b.ex
 exact ⟨⟨F,D,C,F',D',C',kF,kD,kC,kF',kD',kC',h1,h2,a1,b1,a3,b3,a5,b5,nU a2 b2 (rD a.uq) fun e _=>ji e,nU a4 b4 (rD a.uq) fun e _=>ji e,sB a6 b6 fun e _=>ji e⟩⟩
theorem WE.new (hF:H F=some (.dK [])) (hD:H D=some (.dK [])) (hC:H C=some (dJ P w C [])) (ne:F≠D):WE P w K H F D C []:=
 ⟨⟨[],[],[],hF, .nil,hD, .nil,⟨hC,fun p m=>by cases m⟩, .nil⟩,ne, .nil⟩
theorem bV (n:Nat) (es:List Et) (e:Et):atP n (es++ [e])=if e.pl=n then atP n es++ [e] else atP n es:=by
 unfold atP
 rw [List.filter_append,vO,List.filter_nil]
 by_cases q:e.pl=n
 · rw [if_pos q,show (e.pl==n)=true by simpa using q]
   rfl
 · rw [if_neg q,show (e.pl==n)=false by simpa using q]
   simp
theorem pR {es:List Et} {e:Et} (h:es.Pairwise fun a b=>¬(a.pl=b.pl∧a.key=b.key)) (hn:hasE es e=false):(es++ [e]).Pairwise fun a b=>¬(a.pl=b.pl∧a.key=b.key):=by
 rw [List.pairwise_append]
 refine ⟨h,List.pairwise_singleton _ _,fun a m b mb q=> ?_⟩
 rw [vo.mp mb] at q
 rw [has_t.mpr ⟨a,m,q⟩] at hn
 cases hn
theorem e8 {es:List Et} {e:Et}:(∃a∈atP e.pl es,a.key=e.key)↔hasE es e=true:=by
 rw [has_t]
 constructor
 · rintro ⟨a,m,k⟩
   obtain ⟨m1,m2⟩:=vq.mp m
   exact ⟨a,m1,eq_of_beq m2,k⟩
 · rintro ⟨a,m,p,k⟩
   exact ⟨a,vq.mpr ⟨m,by simpa using p⟩,k⟩
end
open PySem PySem.NumText L2 Mth Dec Tre Wd Spl Dj
noncomputable def dOf (e:Et) (F D C:Addr):Addr:=match e with
 | .fl _=>F
 | .nm _ _=>D
 | .ca _ _ _=>C
theorem d_at (e:Et) (F D C:Addr):atI [V.ref F,V.ref D,V.ref C] (e.pl:Int)=some (.ref (dOf e F D C)):=by
 cases e with
 |fl x=>exact aR (j:=0) rfl
 |nm x p=>exact aR (j:=1) rfl
 |ca x ps p=>exact aR (j:=2) rfl
theorem isS {o:Option V} {b:Bool} (h:o.isSome=true↔b=true):o.isSome=b:=vD.mpr h
section
variable {P:Program} {w:World} {K:PySem.W.Frag} {H:Hp} {F D C:Addr} {es:List Et}
theorem eV {H:Hp} {v:V} {x:Str} (h:TrAt H v (.str x)):v= .str x:=by unfold TrAt at h;exact h
theorem rB (h:WE P w K H F D C es) {e:Et} {kv:V} (hk:TrAt H kv e.key) {Q:VK} (q:Q (.bl (hasE es e)) H):rInD P w K kv (.ref (dOf e F D C)) H Q:=by
 obtain ⟨kF,kD,kC,h1,h2,h3,h4,h5,h6⟩:=h.ex
 refine ⟨_,rfl,?_⟩
 cases e with
 |fl x=>
  have hk:=eV hk
  subst hk
  refine .inl ⟨kF,x,rfl,h1,?_⟩
  rw [isS ((h2.look x).trans (e8 (e:= .fl x)))]
  exact q
 |nm x p=>
  have hk:=eV hk
  subst hk
  refine .inl ⟨kD,x,rfl,h3,?_⟩
  rw [isS ((h4.look x).trans (e8 (e:= .nm x p)))]
  exact q
 |ca x ps p=>
  obtain ⟨b,_,rfl,_⟩:=at_t hk
  refine .inr ⟨b,kyJ (.ca x ps p),kC,rfl,h5,jB hk,?_⟩
  have:(∃e∈atP 2 es,kyJ e=kyJ (.ca x ps p))↔∃e∈atP 2 es,e.key=(Et.ca x ps p).key:=by
   constructor
   · rintro ⟨e,m,k⟩
     exact ⟨e,m,(ig (eq_of_beq (vq.mp m).2) rfl).mp k⟩
   · rintro ⟨e,m,k⟩
     exact ⟨e,m,(ig (eq_of_beq (vq.mp m).2) rfl).mpr k⟩
  rw [isS ((h6.look _).trans (this.trans (e8 (e:= .ca x ps p))))]
  exact q
theorem mQ (h:WE P w K H F D C es) {e:Et} {kv vv:V} (hk:TrAt H kv e.key) (hv:TrAt H vv e.val) (hn:hasE es e=false) (hl:es.length < 1000) {nx:Hp→Prop}
 (q:∀H',(∀b,b≠F→b≠D→b≠C→H' b=H b)→Kd H H'→WE P w K H' F D C (es++ [e])→nx H'):
 (∃kvs t,kv= .str t∧H (dOf e F D C)=some (.dK kvs)∧kvs.length < sizeLine∧nx (upd H (dOf e F D C) (.dK (putK kvs (.inr t) vv))))∨∃b k kvs,kv= .ref b∧DJ P w K H (dOf e F D C) kvs∧KeyAt K H k b∧kvs.length < sizeLine∧nx (upd H (dOf e F D C) (dJ P w (dOf e F D C) (putJ kvs k b vv))):=by
 obtain ⟨kF,kD,kC,h1,h2,h3,h4,h5,h6⟩:=h.ex
 have hL:(20000:Nat)≤sizeLine:=by decide +kernel
 have la:∀n,(atP n es).length≤es.length:=fun n=>List.length_filter_le _ _
 have uq:=pR h.uq hn
 have nFC:C≠F:=fun z=>by have:=h5.at_;rw [z,h1] at this;cases this
 have nDC:C≠D:=fun z=>by have:=h5.at_;rw [z,h3] at this;cases this
 have no:∀ {b:Bool},(b=true↔hasE es e=true)→b=false:=fun {b} z=>by
  cases b with
  |false=>rfl
  |true=>rw [z.mp rfl] at hn;cases hn
 cases e with
 |fl x=>
  have hk:=eV hk
  subst hk
  have ln:=h2.len
  have:=la 0
  refine .inl ⟨kF,x,rfl,h1,by omega,?_⟩
  have kd:Kd H (upd H F (.dK (putK kF (.inr x) vv))):=Kd.updK h1
  have e0:putK kF (.inr x) vv=kF++ [(.inr x,vv)]:=iG vv (by
   have:=no ((h2.look x).trans (e8 (e:= .fl x)))
   simpa using this)
  refine q _ (fun b n1 _ _=>aj n1) kd ⟨⟨kF++ [(.inr x,vv)],kD,kC,?_,?_,?_,?_,?_,?_⟩,h.ne,uq⟩
  · rw [←e0];exact aa
  · rw [bV,if_pos (show (Et.fl x).pl=0 from rfl)]
    exact (h2.mono kd).snoc rfl (hv.mono kd)
  · show upd H F _ D=_
    rw [aj h.ne.symm];exact h3
  · rw [bV,if_neg (by simp [Et.pl])]
    exact h4.mono kd
  · exact h5.kd kd (by show upd H F _ C=_;rw [aj nFC];exact h5.at_)
  · rw [bV,if_neg (by simp [Et.pl])]
    exact h6.mono kd
 |nm x p=>
  have hk:=eV hk
  subst hk
  have ln:=h4.len
  have:=la 1
  refine .inl ⟨kD,x,rfl,h3,by omega,?_⟩
  have kd:Kd H (upd H D (.dK (putK kD (.inr x) vv))):=Kd.updK h3
  have e0:putK kD (.inr x) vv=kD++ [(.inr x,vv)]:=iG vv (by
   have:=no ((h4.look x).trans (e8 (e:= .nm x p)))
   simpa using this)
  refine q _ (fun b _ n1 _=>aj n1) kd ⟨⟨kF,kD++ [(.inr x,vv)],kC,?_,?_,?_,?_,?_,?_⟩,h.ne,uq⟩
  · show upd H D _ F=_
    rw [aj h.ne];exact h1
  · rw [bV,if_neg (by simp [Et.pl])]
    exact h2.mono kd
  · rw [←e0];exact aa
  · rw [bV,if_pos (show (Et.nm x p).pl=1 from rfl)]
    exact (h4.mono kd).snoc rfl (hv.mono kd)
  · exact h5.kd kd (by show upd H D _ C=_;rw [aj nDC];exact h5.at_)
  · rw [bV,if_neg (by simp [Et.pl])]
    exact h6.mono kd
 |ca x ps p=>
  obtain ⟨b,_,rfl,_⟩:=at_t hk
  have ln:=h6.len
  have:=la 2
  refine .inr ⟨b,kyJ (.ca x ps p),kC,rfl,h5,jB hk,by omega,?_⟩
  have kd:Kd H (upd H C (dJ P w C (putJ kC (kyJ (.ca x ps p)) b vv))):=Kd.updJ h5.at_
  have e0:putJ kC (kyJ (.ca x ps p)) b vv=kC++ [(kyJ (.ca x ps p),b,vv)]:=by
   have eq2:(∃e∈atP 2 es,kyJ e=kyJ (.ca x ps p))↔∃e∈atP 2 es,e.key=(Et.ca x ps p).key:=by
    constructor
    · rintro ⟨e,m,k⟩
      exact ⟨e,m,(ig (eq_of_beq (vq.mp m).2) rfl).mp k⟩
    · rintro ⟨e,m,k⟩
      exact ⟨e,m,(ig (eq_of_beq (vq.mp m).2) rfl).mpr k⟩
   have:=no ((h6.look _).trans (eq2.trans (e8 (e:= .ca x ps p))))
   unfold putJ
   rw [this]
   rfl
  have dp:=h5.put (v:=vv) (jB hk)
  refine q _ (fun b _ _ n1=>aj n1) kd ⟨⟨kF,kD,kC++ [(kyJ (.ca x ps p),b,vv)],?_,?_,?_,?_,?_,?_⟩,h.ne,uq⟩
  · show upd H C _ F=_
    rw [aj nFC.symm];exact h1
  · rw [bV,if_neg (by simp [Et.pl])]
    exact h2.mono kd
  · show upd H C _ D=_
    rw [aj nDC.symm];exact h3
  · rw [bV,if_neg (by simp [Et.pl])]
    exact h4.mono kd
  · rw [←e0];exact dp
  · rw [bV,if_pos (show (Et.ca x ps p).pl=2 from rfl)]
    exact (h6.mono kd).snoc (hv.mono kd)
end
noncomputable def stp (es:List Et) (z:Str):Option (List Et):=match lnF (wdF z) with
 |none=>none
 |some e=>if hasE es e=true then none else some (es++ [e])
noncomputable def wkF:Nat→List Et→List Str→Sum Nat (List Et)
 |_,es,[]=> .inr es
 |i,es,z::r=>match stp es z with
  |none=> .inl i
  |some es'=>wkF (i+1) es' r
theorem jQ {i:Nat} {es:List Et} {zs:List Str} {z:Str} (e:zs[i]?=some z) (h:stp es z=none):wkF i es (zs.drop i)= .inl i:=by
 obtain ⟨hi,rfl⟩:=vg.mp e
 rw [vQ hi,wkF,h]
theorem rq {i:Nat} {es es':List Et} {zs:List Str} {z:Str} (e:zs[i]?=some z) (h:stp es z=some es'):wkF i es (zs.drop i)=wkF (i+1) es' (zs.drop (i+1)):=by
 obtain ⟨hi,rfl⟩:=vg.mp e
 rw [vQ hi,wkF,h]
open PySem PySem.NumText L2 Mth Dec Tre Wd Spl Dj
structure Ls (zs:List Str):Prop where
 n:zs.length≤40
 l:∀z∈zs,z.length≤200
noncomputable def txN (n:Nat):Str:=Str.ofString "text "++((toString (n:Int):String):Str)
theorem rA:∀ {zs:List Str} {i n:Nat} {es:List Et},wkF i es zs= .inl n→n < i+zs.length
 | [],i,n,es,h=>by cases h
 |z::r,i,n,es,h=>by
  rw [wkF] at h
  split at h
  · cases h
    simp
  · have:=rA h
    simp only [uU]
    omega
section
variable {P:Program} {w:World} {K:PySem.W.Frag} {mg:Str→Option Value} {base:Heap}
def eX (P:Program) (w:World) (K:PySem.W.Frag):Sp:=fun vs H Q _=>∃(l:Addr) (zs:List Str),vs= [.ref l]∧H l=some (.lst (zs.map V.str))∧Ls zs∧
 (∀n,wkF 0 [] zs= .inl n→∀H',Same H H'→Q (.str (txN n)) H')∧
 ∀es,wkF 0 [] zs= .inr es→∀r F D C H',Same H H'→H' r=some (.tup [.ref F, .ref D, .ref C])→WE P w K H' F D C es→Q (.ref r) H'
theorem scDu:aN ["_law_lines","_law_world","_law_at","_law_told"] ["_law_lines"] (af sDue):=⟨rfl,rfl,rfl,by decide +kernel,rfl,by decide +kernel,by decide +kernel⟩
theorem jZ {H0 H H':Hp} {F D C:Addr} (nF:H0 F=none) (nD:H0 D=none) (nC:H0 C=none) (s:Same H0 H) (h:∀b,b≠F→b≠D→b≠C→H' b=H b):Same H0 H':=fun b o e=>by
 rw [h b (aI e nF) (aI e nD) (aI e nC)]
 exact s b o e
theorem t6 {f fL:Addr} {fd dL:FuncData} (F:Fun K "_law_due" "_law_due" sDue f fd) (B:Blt mg)
 (gL:FnOk P w K mg base CX0 3 fL dL ["_law_line_here"] jp) (kL:PySem.W.keepIn K (.ref fL)=true) (bL:Binds K dL ["_law_line_here"] []) (mL:mg "_law_line"=some (.ref fL)):FnOk P w K mg base CX0 4 f fd ["_law_lines"] (eX P w K):=by
 refine F.ok scDu (fun vs H Q E h=> ?_) (fun cdv A outer s H vs Q E hr h=> ?_)
 · obtain ⟨l,zs,rfl,_⟩:=h
   rfl
 obtain ⟨l,zs,rfl,hl,hL,kN,kW⟩:=h
 have hun:=hr.units
 have hu50:_+50 < cLine:=vA (vI (by decide) _) hun
 have hu30:_+30 < cLine:=vA (vI (by decide) _) hun
 refine ⟨_,a9 (ar (i:=1) scDu.nd rfl (Or.inl rfl) (bu (a7 du (a7 du (a7 (k9 (P:=P) (w:=w) rfl rfl) a8)))))
  (a9 (d8 PassesOwn.never rfl (dQ rfl B.ra (a7 (aq am rfl B.le PySem.boot_len (a7 (pv 0) a8)) a8)) (aY (i:=2) scDu.nd rfl (Or.inl rfl))
   (a9 (ar (i:=3) scDu.nd rfl (Or.inl rfl) (au gL hr rfl mL kL bL .nil aL (a7 (aE av (pv 0) (pv 2) fun _ _=>rfl) a8)))
   (a9 (aS (PW.pt (bf (ah fe (pv 3) bb (ao _)) (bi (ah (ot (P:=P) (w:=w) (K:=K) rfl rfl rfl hu30) (aE c5 (pv 3) ac fun _ _=>rfl) (aE c5 (pv 1) (aE c5 (pv 3) ac fun _ _=>rfl) fun _ _=>rfl) (by with_unfolding_all rfl)))))
    (ag (aA (ak ay ad (aJ bQ rfl B.st PyProof.Rows.boot_str (a7 (pv 2) a8))))) aw)
   (ag (k8 (P:=P) (w:=w) (K:=K) rfl rfl rfl hu30 (aE c5 (pv 1) (aE c5 (pv 3) ac fun _ _=>rfl) fun _ _=>rfl) (aE c5 (pv 3) ac fun _ _=>rfl) (aE c5 (pv 3) ac fun _ _=>rfl) rfl)))))
  (ag (aA (pv 1)))),?_⟩
 have hZ:(20000:Nat)≤sizeLine:=by decide +kernel
 intro aF nF aD nD aC nC
 refine ⟨by show 3≤sizeLine;decide,fun r nr=> ?_⟩
 have nDF:aD≠aF:=fun z=>by rw [z,aa] at nD;cases nD
 have nCD:aC≠aD:=fun z=>by rw [z,aa] at nC;cases nC
 have nCF:aC≠aF:=fun z=>by rw [z,aj nDF.symm,aa] at nC;cases nC
 have nD0:H aD=none:=by rw [aj nDF] at nD;exact nD
 have nC0:H aC=none:=by rw [aj nCD,aj nCF] at nC;exact nC
 have s1:=ae (o:= .tup [V.ref aF,V.ref aD,V.ref aC]) nr
 have s0:Same H (upd (upd (upd H aF (.dK [])) aD (.dK [])) aC (dJ P w aC [])):=b8 nC0 (b8 nD0 (ae nF))
 have w0:WE P w K (upd (upd (upd H aF (.dK [])) aD (.dK [])) aC (dJ P w aC [])) aF aD aC []:=WE.new (by rw [aj nCF.symm,aj nDF.symm];exact aa) (by rw [aj nCD.symm];exact aa) aa nDF.symm
 have h1r:(upd (upd (upd (upd H aF (.dK [])) aD (.dK [])) aC (dJ P w aC [])) r (.tup [V.ref aF,V.ref aD,V.ref aC])) r=some (.tup [V.ref aF,V.ref aD,V.ref aC]):=aa
 have w1:=w0.same s1
 have s01:=s0.trans s1
 generalize (upd (upd (upd (upd H aF (.dK [])) aD (.dK [])) aC (dJ P w aC [])) r (.tup [V.ref aF,V.ref aD,V.ref aC]))=H1 at h1r w1 s01
 refine aM ?_
 dsimp only
 have hn0:=hL.n
 refine ⟨_,rfl,l,_,rfl, .inl (SqL.of (s01 _ _ hl)),zs.length,by rw [uT],by omega,by omega,?_⟩
 refine dX (n:=zs.length) (fun i σ H'=>Same H H'∧H' r=some (.tup [V.ref aF,V.ref aD,V.ref aC])∧∃(es:List Et) (x2 x3:Option V),σ= [some (.ref l),some (.ref r),x2,x3]∧WE P w K H' aF aD aC es∧wkF 0 [] zs=wkF i es (zs.drop i)∧es.length≤i)
  ⟨s01,h1r,[],none,none,rfl,w1,by rw [List.drop_zero],uW _⟩ ?_ ?_
 · rintro i σ H2 hi ⟨s2,h2r,es,x2,x3,rfl,w2,wk,le⟩
   have ez:zs[i]?=some zs[i]:=uV hi
   have lz:zs[i].length≤200:=hL.l _ (List.getElem_mem hi)
   have hn:=hL.n
   generalize zs[i]=z at ez lz
   refine aM ?_
   try dsimp only
   rw [show (0:Int)+(i:Int)=(i:Int) by omega]
   refine az (fun σ' H3=>Same H2 H3∧∃v,σ'= [some (.ref l),some (.ref r),some (.int (i:Int)),some v]∧TrAt H3 v (etO (lnF (wdF z)))) ?_ fun nx hnx=> ?_
   rotate_left
   · exact ⟨_,rfl,_,rfl,l,_,_,_,rfl,rfl,SqL.of (s2 _ _ hl),aR (j:=i) (by rw [vn,ez];rfl),z,rfl,lz,fun v H3 s3 hv=>hnx _ _ ⟨s3,v,rfl,hv⟩⟩
   rintro _ H3 ⟨s3,v,rfl,hv⟩
   have s23:=s2.trans s3
   have w3:=w2.same s3
   have h3r:=s3 _ _ h2r
   have stop:stp es z=none→Q (.str (txN i)) H3:=fun q=>kN i (wk.trans (jQ ez q)) H3 s23
   have lg:(i:Int).natAbs.log2 < 1920:=by
    rw [vP]
    by_cases z0:i=0
    · rw [z0];decide
    · exact (Nat.log2_lt z0).mpr (v8 (show i < 2^6 by omega) (Nat.pow_le_pow_right (n:=2) (by decide) (show 6≤1920 by decide)))
   have lt:=fv i (by omega)
   refine az (fun σ' H4=>H3=H4∧σ'= [some (.ref l),some (.ref r),some (.int (i:Int)),some v]∧∃e,lnF (wdF z)=some e∧hasE es e=false) ?_ fun nx hnx=> ?_
   rotate_left
   · refine ⟨_,rfl,rfl,_,rfl,?_⟩
     cases ee:lnF (wdF z) with
     |none=>
      rw [ee] at hv
      have:=ju hv
      subst this
      refine if_t (decide_eq_true rfl) ?_
      refine ⟨_,rfl,_,rfl,lg,_,_,rfl,rfl,?_,?_⟩
      · have:(Str.ofString "text ").length=5:=by decide +kernel
        omega
      · exact stop (by unfold stp;rw [ee])
     |some e=>
      rw [ee] at hv
      obtain ⟨a,vs,rfl,ha,hvs⟩:=at_t hv
      obtain ⟨v0,r0,rfl,t0,hvs⟩:=hvs.inv
      obtain ⟨v1,r1,rfl,t1,hvs⟩:=hvs.inv
      obtain ⟨v2,r2,rfl,t2,hvs⟩:=hvs.inv
      unfold TrsAt at hvs
      subst hvs
      have e0:v0= .int (e.pl:Int):=by unfold TrAt at t0;exact t0
      subst e0
      refine if_f (decide_eq_false fun z=>by cases z) ?_
      refine ⟨_,rfl,a,_,1,v1,rfl,rfl,SqT.of ha,aR (j:=1) rfl,_,rfl,_,rfl,a,_,0,_,rfl,rfl,SqT.of ha,aR (j:=0) rfl,r,_,_,_,rfl,rfl,SqT.of h3r,d_at e aF aD aC,?_⟩
      refine rB w3 t1 ⟨_,rfl,?_⟩
      cases hh:hasE es e with
      |true=>
       refine iteT ?_
       refine ⟨_,rfl,_,rfl,lg,_,_,rfl,rfl,?_,?_⟩
       · have:(Str.ofString "text ").length=5:=by decide +kernel
         omega
       · exact stop (by unfold stp;rw [ee];exact if_pos hh)
      |false=>exact iteF (hnx _ _ ⟨rfl,rfl,e,ee,hh⟩)
   rintro _ _ ⟨rfl,rfl,e,ee,hh⟩
   rw [ee] at hv
   obtain ⟨a,vs,rfl,ha,hvs⟩:=at_t hv
   obtain ⟨v0,r0,rfl,t0,hvs⟩:=hvs.inv
   obtain ⟨v1,r1,rfl,t1,hvs⟩:=hvs.inv
   obtain ⟨v2,r2,rfl,t2,hvs⟩:=hvs.inv
   unfold TrsAt at hvs
   subst hvs
   have e0:v0= .int (e.pl:Int):=by unfold TrAt at t0;exact t0
   subst e0
   refine ⟨_,rfl,a,_,2,v2,rfl,rfl,SqT.of ha,aR (j:=2) rfl,_,rfl,_,rfl,a,_,0,_,rfl,rfl,SqT.of ha,aR (j:=0) rfl,r,_,_,_,rfl,rfl,SqT.of h3r,d_at e aF aD aC,_,rfl,a,_,1,v1,rfl,rfl,SqT.of ha,aR (j:=1) rfl,_,rfl,?_⟩
   refine mQ w3 t1 t2 hh (by omega) fun H4 hd kd w4=> ?_
   refine ⟨jZ nF nD0 nC0 s23 hd,kd.tup _ _ h3r,es++ [e],_,_,rfl,w4,?_,by rw [vc,vz];omega⟩
   rw [wk]
   exact rq ez (by unfold stp;rw [ee];exact if_neg (by rw [hh];decide))
 · rintro σ H2 ⟨s2,h2r,es,x2,x3,rfl,w2,wk,le⟩
   rw [List.drop_length] at wk
   exact ⟨_,rfl,kW es wk r aF aD aC H2 s2 h2r w2⟩
end
open PySem PySem.NumText L2 Mth Dec Tre Wd Spl Dj
structure Nt (K:PySem.W.Frag) (mg:Str→Option Value) (C fN W fW:Addr):Prop where
 mC:mg "NoText"=some (.ref C)
 mW:mg "WishError"=some (.ref W)
 xc:XCls K C fN
 xi:XIs K C
 fl:XFl K C "at"
 cf:si K W "__init__" fW
 na:PySem.W.findIn K (.ref C) "at"=some none
 ex:PySem.W.exmOne K (.ref C) (.ref W)=some true
section
variable {P:Program} {w:World} {K:PySem.W.Frag} {mg:Str→Option Value} {base:Heap}
def jq (K:PySem.W.Frag):Sp:=fun vs H Q _=>∃(x C fI:Addr) (y:V),vs= [.ref x,y]∧H x=some (Exo C x)∧XCls K C fI∧Q .non H
theorem scI:aN ["self","words"] ["self","words"] (af gk):=⟨rfl,rfl,rfl,by decide +kernel,rfl,by decide +kernel,by decide +kernel⟩
theorem qC {f:Addr} {fd:FuncData} (F:Fun K "__init__" "WishError.__init__" gk f fd) (B:Blt mg):FnOk P w K mg base CX0 1 f fd ["self","words"] (jq K):=by
 refine F.ok scI (fun vs H Q E h=> ?_) (fun cdv A outer s H vs Q E hr h=> ?_)
 · obtain ⟨x,C,fI,y,rfl,_⟩:=h
   rfl
 · obtain ⟨x,C,fI,y,rfl,hH,hX,k⟩:=h
   refine ⟨_,ag (c9 (iH rfl B.ve (a7 (pv 0) (a7 (pv 1) a8)))),?_⟩
   exact ⟨_,rfl,_,rfl,x,C,fI,[y],rfl,by show 1≤1000;decide,hH,hX,k⟩
def spNt (C:Addr):Sp:=fun vs H Q _=>∃(x:Addr) (n:Nat),vs= [.ref x, .int (n:Int)]∧n < 64∧H x=some (Exo C x)∧∀d,H d=none→d≠x→Q .non (upd (upd H d (.xd [(Str.ofString "at", .int (n:Int))])) x (Exf C x d))
theorem scNt:aN ["self","at"] ["self","at"] (af sNTi):=⟨rfl,rfl,rfl,by decide +kernel,rfl,by decide +kernel,by decide +kernel⟩
theorem uv {f C fN W fW:Addr} {fd dW:FuncData} (F:Fun K "__init__" "NoText.__init__" sNTi f fd) (L:Nt K mg C fN W fW)
 (gW:FnOk P w K mg base CX0 1 fW dW ["self","words"] (jq K)) (kW:PySem.W.keepIn K (.ref fW)=true) (bW:Binds K dW ["self","words"] []):FnOk P w K mg base CX0 2 f fd ["self","at"] (spNt C):=by
 refine F.ok scNt (fun vs H Q E h=> ?_) (fun cdv A outer s H vs Q E hr h=> ?_)
 · obtain ⟨x,n,rfl,_⟩:=h
   rfl
 obtain ⟨x,n,rfl,hn,hx,k⟩:=h
 refine ⟨_,a9 (c9 (js L.cf gW hr rfl L.mW kW bW aL (a7 (pv 0) (a7 (sP ad (pv 1) ad) a8))))
  (ag (qj (pv 0) (pv 1) rfl)),?_⟩
 refine ⟨_,rfl,_,rfl,by decide +kernel,_,rfl,n,rfl,hn,_,rfl,by decide +kernel,fun r=> ?_⟩
 refine ⟨x,C,fN,_,rfl,hx,L.xc,?_⟩
 exact ⟨_,rfl,_,rfl,x,C,rfl,hx,L.fl,fun d nd dn=>k d nd dn⟩
def nK (P:Program) (w:World) (K:PySem.W.Frag) (C0:Addr):Sp:=fun vs H Q E=>∃(l:Addr) (zs:List Str),vs= [.ref l]∧H l=some (.lst (zs.map V.str))∧Ls zs∧
 (∀n,wkF 0 [] zs= .inl n→∀d H',Same H H'→H' d=some (.xd [(Str.ofString "at", .int (n:Int))])→E (.ref C0) (some d) H')∧
 ∀es,wkF 0 [] zs= .inr es→∀r F D C H',Same H H'→H' r=some (.tup [.ref F, .ref D, .ref C])→WE P w K H' F D C es→Q (.ref r) H'
theorem scRw:aN ["lines","world","number","line","entry","place","key","value"] ["lines"] (af sRdw):=⟨rfl,rfl,rfl,by decide +kernel,rfl,by decide +kernel,by decide +kernel⟩
theorem sY {f fE fN C0 W fW:Addr} {fd dE dN:FuncData} (F:Fun K "read_world" "read_world" sRdw f fd) (B:Blt mg) (L:Nt K mg C0 fN W fW)
 (gN:FnOk P w K mg base CX0 2 fN dN ["self","at"] (spNt C0)) (bN:Binds K dN ["self","at"] [])
 (gE:FnOk P w K mg base CX0 5 fE dE ["words"] nR) (kE:PySem.W.keepIn K (.ref fE)=true) (bE:Binds K dE ["words"] []) (mE:mg "entry_in"=some (.ref fE)):FnOk P w K mg base (CXF P w) 6 f fd ["lines"] (nK P w K C0):=by
 refine F.okX scRw (fun vs H Q E h=> ?_) (fun cdv A outer s H vs Q E hr h=> ?_)
 · obtain ⟨l,zs,rfl,_⟩:=h
   rfl
 obtain ⟨l,zs,rfl,hl,hL,kN,kW⟩:=h
 have hr3:Room (2+1) _:=hr.mono (by decide)
 have hun:=hr.units
 have hu30:_+30 < cLine:=vA (vI (by decide) _) hun
 refine ⟨_,a9 (ar (i:=1) scRw.nd rfl (Or.inl rfl) (bu (a7 du (a7 du (a7 (k9 (P:=P) (w:=w) rfl rfl) a8)))))
  (a9 (d8 PassesOwn.leaving rfl (qm rfl B.en (a7 (pv 0) a8)) (i5 (n:=2) rfl (br (aY (i:=2) scRw.nd rfl (Or.inl rfl)) (br (aY (i:=3) scRw.nd rfl (Or.inl rfl)) eL)))
   (a9 (ar (i:=4) scRw.nd rfl (Or.inl rfl) (au gE hr rfl mE kE bE .nil aL (a7 (bO PySem.F.plainAttrs_str PySem.F.slot_str_split PySem.F.type_str_split dB (pv 3) (a7 ad a8)) a8)))
   (a9 (aS (PW.pt (bf (ah fe (pv 4) bb (ao _)) (bi (ah (ot (P:=P) (w:=w) (K:=K) rfl rfl rfl hu30) (aE c5 (pv 4) ac fun _ _=>rfl) (aE c5 (pv 1) (aE c5 (pv 4) ac fun _ _=>rfl) fun _ _=>rfl) (by with_unfolding_all rfl)))))
    (ag (lW rfl L.xc (oi L.xc gN hr3 rfl L.mC bN aL (a7 (pv 2) a8) (by decide) (hlen:=fun vs H Q E ⟨_,_,e,_⟩=>by rw [e];show 2≤1000;decide)) n8)) aw)
   (a9 (cQ (pv 4) (i5 (n:=3) rfl (br (aY (i:=5) scRw.nd rfl (Or.inl rfl)) (br (aY (i:=6) scRw.nd rfl (Or.inl rfl)) (br (aY (i:=7) scRw.nd rfl (Or.inl rfl)) eL)))))
   (ag (k8 (P:=P) (w:=w) (K:=K) rfl rfl rfl hu30 (aE c5 (pv 1) (pv 5) fun _ _=>rfl) (pv 6) (pv 7) rfl))))))
  (ag (aA (pv 1)))),?_⟩
 have hZ:(20000:Nat)≤sizeLine:=by decide +kernel
 have hn0:=hL.n
 intro aF nF aD nD aC nC
 refine ⟨by show 3≤sizeLine;decide,fun r nr=> ?_⟩
 have nDF:aD≠aF:=fun z=>by rw [z,aa] at nD;cases nD
 have nCD:aC≠aD:=fun z=>by rw [z,aa] at nC;cases nC
 have nCF:aC≠aF:=fun z=>by rw [z,aj nDF.symm,aa] at nC;cases nC
 have nD0:H aD=none:=by rw [aj nDF] at nD;exact nD
 have nC0:H aC=none:=by rw [aj nCD,aj nCF] at nC;exact nC
 have s1:=ae (o:= .tup [V.ref aF,V.ref aD,V.ref aC]) nr
 have s0:Same H (upd (upd (upd H aF (.dK [])) aD (.dK [])) aC (dJ P w aC [])):=b8 nC0 (b8 nD0 (ae nF))
 have w0:WE P w K (upd (upd (upd H aF (.dK [])) aD (.dK [])) aC (dJ P w aC [])) aF aD aC []:=WE.new (by rw [aj nCF.symm,aj nDF.symm];exact aa) (by rw [aj nCD.symm];exact aa) aa nDF.symm
 have h1r:(upd (upd (upd (upd H aF (.dK [])) aD (.dK [])) aC (dJ P w aC [])) r (.tup [V.ref aF,V.ref aD,V.ref aC])) r=some (.tup [V.ref aF,V.ref aD,V.ref aC]):=aa
 have w1:=w0.same s1
 have s01:=s0.trans s1
 generalize (upd (upd (upd (upd H aF (.dK [])) aD (.dK [])) aC (dJ P w aC [])) r (.tup [V.ref aF,V.ref aD,V.ref aC]))=H1 at h1r w1 s01
 refine aM ?_
 dsimp only
 refine ⟨_,rfl,l,_,rfl,SqL.of (s01 _ _ hl),?_⟩
 refine p7 (xs:=zs.map V.str) (fun i σ H'=>Same H H'∧H' r=some (.tup [V.ref aF,V.ref aD,V.ref aC])∧∃(es:List Et) (x2 x3 x4 x5 x6 x7:Option V),σ= [some (.ref l),some (.ref r),x2,x3,x4,x5,x6,x7]∧WE P w K H' aF aD aC es∧wkF 0 [] zs=wkF i es (zs.drop i)∧es.length≤i)
  ⟨s01,h1r,[],none,none,none,none,none,none,rfl,w1,by rw [List.drop_zero],uW _⟩ (fun i σ H' _ q=>SqL.of (q.1 _ _ hl)) ?_ ?_
 · rintro i T x σ H2 ex nT ⟨s2,h2r,es,x2,x3,x4,x5,x6,x7,rfl,w2,wk,le⟩
   rw [vn] at ex
   obtain ⟨z,ez,rfl⟩:=vK.mp ex
   have lz:z.length≤200:=hL.l z (vi ez)
   have hi:i < zs.length:=(vg.mp ez).1
   have sT:=ae (o:= .tup [V.int (i:Int),V.str z]) nT
   refine ⟨T,[.int i, .str z],rfl,SqT.of aa,rfl, .int i,[.str z],rfl, .str z,[],rfl,rfl,?_⟩
   have s2':=s2.trans sT
   have w2':=w2.same sT
   have h2r':=sT _ _ h2r
   generalize upd H2 T (.tup [V.int (i:Int),V.str z])=H2' at s2' w2' h2r'
   clear s2 w2 h2r sT nT
   refine az (fun σ' H3=>Same H2' H3∧∃v,σ'= [some (.ref l),some (.ref r),some (.int (i:Int)),some (.str z),some v,x5,x6,x7]∧TrAt H3 v (etO (lnF (wdF z)))) ?_ fun nx hnx=> ?_
   rotate_left
   · obtain ⟨q1,q2⟩:=eO lz
     have es:=eW z
     refine ⟨_,rfl,rfl,z,_,rfl,rfl,by decide +kernel,by omega,by rw [es];omega,fun p np=> ?_⟩
     rw [es]
     have sp:=ae (o:= .lst ((wdF z).map V.str)) np
     exact ⟨p,wdF z,rfl,aa,by omega,q2,fun v H3 s3 hv=>hnx _ _ ⟨sp.trans s3,v,rfl,hv⟩⟩
   rintro _ H3 ⟨s3,v,rfl,hv⟩
   have s23:=s2'.trans s3
   have w3:=w2'.same s3
   have h3r:=s3 _ _ h2r'
   have stop:stp es z=none→∀x d:Addr,H3 x=none→(upd H3 x (Exo C0 x)) d=none→d≠x→E (.ref C0) (some d) (unt (upd (upd (upd H3 x (Exo C0 x)) d (.xd [(Str.ofString "at", .int (i:Int))])) x (Exf C0 x d)) x):=fun q x d nx nd dn=>by
    refine kN i (wk.trans (jQ ez q)) d _ (fun b o e=> ?_) ?_
    · have e3:=s23 _ _ e
      have nb:b≠x:=aI e3 nx
      have nd':H3 d=none:=by rw [aj dn] at nd;exact nd
      rw [bY nb,aj nb,aj (aI e3 nd'),aj nb]
      exact e3
    · rw [bY dn,aj dn]
      exact aa
   refine az (fun σ' H4=>H3=H4∧σ'= [some (.ref l),some (.ref r),some (.int (i:Int)),some (.str z),some v,x5,x6,x7]∧∃e,lnF (wdF z)=some e∧hasE es e=false) ?_ fun nx hnx=> ?_
   rotate_left
   · refine ⟨_,rfl,rfl,_,rfl,?_⟩
     cases ee:lnF (wdF z) with
     |none=>
      rw [ee] at hv
      have:=ju hv
      subst this
      refine if_t (decide_eq_true rfl) ?_
      refine ⟨_,rfl,fun x nx0 sx=>⟨x,i,rfl,by omega,aa,fun d nd dn=>⟨rfl,x,d,rfl,aa,sx,?_⟩⟩⟩
      exact stop (by unfold stp;rw [ee]) x d nx0 nd dn
     |some e=>
      rw [ee] at hv
      obtain ⟨a,vs,rfl,ha,hvs⟩:=at_t hv
      obtain ⟨v0,r0,rfl,t0,hvs⟩:=hvs.inv
      obtain ⟨v1,r1,rfl,t1,hvs⟩:=hvs.inv
      obtain ⟨v2,r2,rfl,t2,hvs⟩:=hvs.inv
      unfold TrsAt at hvs
      subst hvs
      have e0:v0= .int (e.pl:Int):=by unfold TrAt at t0;exact t0
      subst e0
      refine if_f (decide_eq_false fun z=>by cases z) ?_
      refine ⟨_,rfl,a,_,1,v1,rfl,rfl,SqT.of ha,aR (j:=1) rfl,_,rfl,_,rfl,a,_,0,_,rfl,rfl,SqT.of ha,aR (j:=0) rfl,r,_,_,_,rfl,rfl,SqT.of h3r,d_at e aF aD aC,?_⟩
      refine rB w3 t1 ⟨_,rfl,?_⟩
      cases hh:hasE es e with
      |true=>
       refine iteT ?_
       refine ⟨_,rfl,fun x nx0 sx=>⟨x,i,rfl,by omega,aa,fun d nd dn=>⟨rfl,x,d,rfl,aa,sx,?_⟩⟩⟩
       exact stop (by unfold stp;rw [ee];exact if_pos hh) x d nx0 nd dn
      |false=>exact iteF (hnx _ _ ⟨rfl,rfl,e,ee,hh⟩)
   rintro _ _ ⟨rfl,rfl,e,ee,hh⟩
   rw [ee] at hv
   obtain ⟨a,vs,rfl,ha,hvs⟩:=at_t hv
   obtain ⟨v0,r0,rfl,t0,hvs⟩:=hvs.inv
   obtain ⟨v1,r1,rfl,t1,hvs⟩:=hvs.inv
   obtain ⟨v2,r2,rfl,t2,hvs⟩:=hvs.inv
   unfold TrsAt at hvs
   subst hvs
   have e0:v0= .int (e.pl:Int):=by unfold TrAt at t0;exact t0
   subst e0
   refine ⟨_,rfl,a,_,rfl,SqT.of ha,rfl,_,_,rfl,_,_,rfl,v2,[],rfl,rfl,?_⟩
   try dsimp only
   refine ⟨_,rfl,_,rfl,_,rfl,r,_,_,_,rfl,rfl,SqT.of h3r,d_at e aF aD aC,_,rfl,_,rfl,?_⟩
   refine mQ w3 t1 t2 hh (by omega) fun H4 hd kd w4=> ?_
   refine ⟨jZ nF nD0 nC0 s23 hd,kd.tup _ _ h3r,es++ [e],_,_,_,_,_,_,rfl,w4,?_,by rw [vc,vz];omega⟩
   rw [wk]
   exact rq ez (by unfold stp;rw [ee];exact if_neg (by rw [hh];decide))
 · rintro σ H2 ⟨s2,h2r,es,x2,x3,x4,x5,x6,x7,rfl,w2,wk,le⟩
   rw [uT,List.drop_length] at wk
   exact ⟨_,rfl,kW es wk r aF aD aC H2 s2 h2r w2⟩
end
open PySem PySem.NumText L2 Mth Dec Tre Wd Spl Dj
theorem oR (K:PySem.W.Frag) (C:Addr):PySem.W.kitOne K (.ref C) (.ref C)=some true:=by
 unfold PySem.W.kitOne
 rw [if_pos (by simp)]
structure Cs (K:PySem.W.Frag) (mg:Str→Option Value) (C cL cW cA cN c1 c2 c3 c4:Addr):Prop where
 mL:mg "NoLevel"=some (.ref cL)
 mW:mg "NoWish"=some (.ref cW)
 mA:mg "NoAnswer"=some (.ref cA)
 mN:mg "NoLine"=some (.ref cN)
 m1:mg "BadStep"=some (.ref c1)
 m2:mg "NoPaper"=some (.ref c2)
 m3:mg "NoShare"=some (.ref c3)
 m4:mg "NoStep"=some (.ref c4)
 kv:PySem.W.kitOne K (.ref C) (.type "ValueError")=some true
 kl:PySem.W.kitOne K (.ref C) (.ref cL)=some false
 kw:PySem.W.kitOne K (.ref C) (.ref cW)=some false
 ka:PySem.W.kitOne K (.ref C) (.ref cA)=some false
 kn:PySem.W.kitOne K (.ref C) (.ref cN)=some false
 ko:PySem.W.kitAny K (.ref C) [.ref c1, .ref c2, .ref c3, .ref c4]=some false
section
variable {P:Program} {w:World} {K:PySem.W.Frag} {mg:Str→Option Value} {base:Heap}
def jn (C:Addr):Sp:=fun vs H Q _=>∃(a d:Addr) (n:Nat),vs= [.ref a]∧n < 64∧H a=some (Cauf C a d)∧H d=some (.xd [(Str.ofString "at", .int (n:Int))])∧∀H',Same H H'→Q (.str (txN n)) H'
theorem scRf:aN ["_law_caught","_law_words"] ["_law_caught"] (af gg):=⟨rfl,rfl,rfl,by decide +kernel,rfl,by decide +kernel,by decide +kernel⟩
theorem qz {f C fN W fW cL cW cA cN c1 c2 c3 c4:Addr} {fd:FuncData} (F:Fun K "_law_refusal" "_law_refusal" gg f fd) (B:Blt mg) (N:Nt K mg C fN W fW) (L:Cs K mg C cL cW cA cN c1 c2 c3 c4):FnOk P w K mg base CX0 1 f fd ["_law_caught"] (jn C):=by
 refine F.ok scRf (fun vs H Q E h=> ?_) (fun cdv A outer s H vs Q E hr h=> ?_)
 · obtain ⟨a,d,n,rfl,_⟩:=h
   rfl
 obtain ⟨a,d,n,rfl,hn,ha,hd,k⟩:=h
 refine ⟨_,a9 (aS (PW.pt (bf (ah fe (pv 0) bb (ao _)) (bi (cw (bq (aq (r:=rIsf K) c8 rfl B.isi aQ (a7 (pv 0) (a7 (i8 (v:= .ty "ValueError") rfl B.ve r8 rfl) a8)))))))) (ag (aA ad)) aw)
  (a9 (ar (i:=1) scRf.nd rfl (Or.inl rfl) (bj a8))
  (a9 (aS (bq (aq (r:=rIsf K) c8 rfl B.isi aQ (a7 (pv 0) (a7 (aZ (v:= .ref cL) rfl L.mL rfl) a8)))) dO aw)
  (a9 (aS (bq (aq (r:=rIsf K) c8 rfl B.isi aQ (a7 (pv 0) (a7 (aZ (v:= .ref cW) rfl L.mW rfl) a8)))) dO aw)
  (a9 (aS (bq (aq (r:=rIsf K) c8 rfl B.isi aQ (a7 (pv 0) (a7 (aZ (v:= .ref cA) rfl L.mA rfl) a8)))) dO aw)
  (a9 (aS (bq (aq (r:=rIsf K) c8 rfl B.isi aQ (a7 (pv 0) (a7 (aZ (v:= .ref cN) rfl L.mN rfl) a8)))) dO aw)
  (a9 (aS (bq (aq (r:=rIsf K) c8 rfl B.isi aQ (a7 (pv 0) (a7 (aZ (v:= .ref C) rfl N.mC rfl) a8)))) (ag (c9 (bO PySem.F.plainAttrs_list PySem.F.slot_list_append PySem.F.type_list_append cr (pv 1) (a7 (ak ay ad (aJ bQ rfl B.st PyProof.Rows.boot_str (a7 (qq (pv 0) rfl) a8))) a8)))) aw)
  (a9 (aS (bq (aq (r:=rIsf K) c8 rfl B.isi aQ (a7 (pv 0) (a7 (bu (a7 (aZ (v:= .ref c1) rfl L.m1 rfl) (a7 (aZ (v:= .ref c2) rfl L.m2 rfl) (a7 (aZ (v:= .ref c3) rfl L.m3 rfl) (a7 (aZ (v:= .ref c4) rfl L.m4 rfl) a8))))) a8)))) dO aw)
  (ag (aA (bn (ah b9 (aq am rfl B.le PySem.boot_len (a7 (pv 1) a8)) ac (ao _)) (aE av (pv 1) ac fun _ _=>rfl) ad)))))))))),?_⟩
 have hZ:(20000:Nat)≤sizeLine:=by decide +kernel
 refine ⟨_,rfl,rfl,_,rfl,if_f (decide_eq_false (fun z=>by cases z)) ?_⟩
 refine ⟨_,rfl,a, .ty "ValueError",C,d,true,rfl,ha,N.xi, .inl ⟨rfl,L.kv⟩,true,rfl,iteF ?_⟩
 refine ⟨by show 0≤sizeLine;decide,fun D nD=> ?_⟩
 have s1:=ae (o:= .lst []) nD
 have hD1:(upd H D (.lst [])) D=some (.lst []):=aa
 generalize upd H D (.lst [])=H1 at s1 hD1
 refine aM ?_
 try dsimp only
 have ha1:=s1 _ _ ha
 have hd1:=s1 _ _ hd
 refine ⟨_,rfl,a, .ref cL,C,d,false,rfl,ha1,N.xi, .inl ⟨rfl,L.kl⟩,false,rfl,iteF ?_⟩
 refine ⟨_,rfl,a, .ref cW,C,d,false,rfl,ha1,N.xi, .inl ⟨rfl,L.kw⟩,false,rfl,iteF ?_⟩
 refine ⟨_,rfl,a, .ref cA,C,d,false,rfl,ha1,N.xi, .inl ⟨rfl,L.ka⟩,false,rfl,iteF ?_⟩
 refine ⟨_,rfl,a, .ref cN,C,d,false,rfl,ha1,N.xi, .inl ⟨rfl,L.kn⟩,false,rfl,iteF ?_⟩
 refine ⟨_,rfl,a, .ref C,C,d,true,rfl,ha1,N.xi, .inl ⟨rfl,oR K C⟩,true,rfl,iteT ?_⟩
 have lg:(n:Int).natAbs.log2 < 1920:=by
  rw [vP]
  by_cases z0:n=0
  · rw [z0];decide
  · exact (Nat.log2_lt z0).mpr (v8 (show n < 2^6 by omega) (Nat.pow_le_pow_right (n:=2) (by decide) (show 6≤1920 by decide)))
 have lt:=fv n (by omega)
 refine ⟨_,rfl, .inl ⟨rfl,_,SqL.of hD1⟩,_,rfl,a,C,d,_,_,rfl,ha1,hd1,N.xi,N.fl.pl,N.na,rfl,_,rfl,lg,_,_,rfl,rfl,?_,D,[],_,rfl,rfl,hD1,by decide,?_⟩
 · have:(Str.ofString "text ").length=5:=by decide +kernel
   omega
 have s2:Same H (upd H1 D (.lst ([]++ [.str (txN n)]))):=b8 nD s1
 have hD2:(upd H1 D (.lst ([]++ [.str (txN n)]))) D=some (.lst [.str (txN n)]):=aa
 have ha2:=s2 _ _ ha
 show tSeq _ _ _ _ (upd H1 D (.lst ([]++ [.str (txN n)])))
 generalize upd H1 D (.lst ([]++ [.str (txN n)]))=H2 at s2 hD2 ha2
 refine ⟨_,rfl,by show 4≤sizeLine;decide,fun p np=> ?_⟩
 have s4:=ae (o:= .tup [.ref c1, .ref c2, .ref c3, .ref c4]) np
 refine ⟨a, .ref p,C,d,false,rfl,s4 _ _ ha2,N.xi, .inr ⟨p,_,rfl,aa,rfl,L.ko⟩,false,rfl,iteF ?_⟩
 have hD4:=s4 _ _ hD2
 refine ⟨_,rfl,D,_,rfl, .inl (SqL.of hD4),rfl,_,rfl,if_t (decide_eq_true rfl) ?_⟩
 exact ⟨_,rfl,D,_,0,_,rfl,rfl,SqL.of hD4,rfl,k _ (s2.trans s4)⟩
theorem scAk:aN ["_law_lines","_law_found","_law_caught","e"] ["_law_lines"] (af sAsk):=⟨rfl,rfl,rfl,by decide +kernel,rfl,by decide +kernel,by decide +kernel⟩
theorem t7 {f fR fE C fN W fW:Addr} {fd dR dE:FuncData} (F:Fun K "_law_asked" "_law_asked" sAsk f fd) (N:Nt K mg C fN W fW)
 (gR:FnOk P w K mg base (CXF P w) 6 fR dR ["lines"] (nK P w K C)) (kR:PySem.W.keepIn K (.ref fR)=true) (bR:Binds K dR ["lines"] []) (mR:mg "read_world"=some (.ref fR))
 (gE:FnOk P w K mg base CX0 1 fE dE ["_law_caught"] (jn C)) (kE:PySem.W.keepIn K (.ref fE)=true) (bE:Binds K dE ["_law_caught"] []) (mE:mg "_law_refusal"=some (.ref fE)):FnOk P w K mg base CX0 7 f fd ["_law_lines"] (eX P w K):=by
 refine F.ok scAk (fun vs H Q E h=> ?_) (fun cdv A outer s H vs Q E hr h=> ?_)
 · obtain ⟨l,zs,rfl,_⟩:=h
   rfl
 obtain ⟨l,zs,rfl,hl,hL,kN,kW⟩:=h
 have hr1:Room 1 _:=hr.mono (by decide)
 refine ⟨_,a9 (ar (i:=1) scAk.nd rfl (Or.inl rfl) bb)
  (a9 (ar (i:=2) scAk.nd rfl (Or.inl rfl) bb)
  (a9 (qi (i:=3) (W:=W) (cx:="WishError") rfl rfl scAk.nd rfl rfl rfl N.mW (qh (i:=1) (fun _ _ z=>z) gR hr rfl mR kR bR (a7 (pv 0) a8) scAk.nd rfl rfl)
   (fun a=>ag (ar (i:=2) scAk.nd rfl (Or.inl rfl) (pv 3))))
  (ag (aA (bn (ah fe (pv 2) bb (ao _)) (pv 1) (au gE hr1 rfl mE kE bE .nil aL (a7 (pv 2) a8))))))),?_⟩
 refine ⟨_,rfl,l,zs,rfl,hl,hL,fun n hn d H' s1 hd=> ?_,fun es he r F' D' C' H' s1 hr' hw=> ?_⟩
 · refine ⟨C,d,rfl,rfl,N.ex,fun a na=> ?_⟩
   have s2:=ae (o:=Cauf C a d) na
   refine ⟨_,rfl,?_⟩
   refine ⟨_,rfl,rfl,_,rfl,if_f (decide_eq_false fun z=>by cases z) ?_⟩
   have:=rA hn
   have:=hL.n
   exact ⟨_,rfl,a,d,n,rfl,by omega,aa,s2 _ _ hd,fun H'' s3=>kN n hn H'' (s1.trans (s2.trans s3))⟩
 · exact ⟨_,rfl,rfl,_,rfl,if_t (decide_eq_true rfl) ⟨_,rfl,kW es he r F' D' C' H' s1 hr' hw⟩⟩
end
open PySem PySem.NumText L2 Mth Dec Tre Wd Spl Dj
noncomputable def preT:List Str:= [Str.ofString "a",Str.ofString "ab",Str.ofString "b",Str.ofString "f"]
noncomputable def valT:List Str:= [Str.ofString "0",Str.ofString "1",Str.ofString "-1/2",Str.ofString "7/3",Str.ofString "-12"]
noncomputable def plaT:List Str:= [Str.ofString "0",Str.ofString "3",Str.ofString "-3/4"]
noncomputable def fi (nm vl pc:Str):List Str:= [Str.ofString "flag "++nm,Str.ofString "name "++nm++Str.ofString " "++vl,Str.ofString "call "++nm++Str.ofString " "++pc++Str.ofString " = "++vl,
 Txt.join (Str.ofString " ") [Str.ofString "call",nm,pc,vl,Str.ofString "0",Str.ofString "=",vl]]
def Et.nam:Et→Str
 | .fl x=>x
 | .nm x _=>x
 | .ca x _ _=>x
def eG (e:Et):Option Nat:=(cl e.nam).getLast?
noncomputable def okL (k:Nat) (z:Str):Bool:=match lnF (wdF z) with
 |some e=>eG e==some (97+k)&&decide (z.length≤60)
 |none=>false
theorem kh:((List.range 6).all fun k=>preT.all fun pr=>decide ((pr++(⟨#[97+k]⟩:Str)).length≤3)&&valT.all fun vl=>plaT.all fun pc=>(fi (pr++⟨#[97+k]⟩) vl pc).all (okL k))=true:=by decide +kernel
theorem t8 {k:Nat} {pr vl pc z:Str} (hk:k < 6) (hp:pr∈preT) (hv:vl∈valT) (hc:pc∈plaT) (hz:z∈fi (pr++⟨#[97+k]⟩) vl pc):okL k z=true:=by
 have:=vj.mp kh k (vG.mpr hk)
 have:=vj.mp this pr hp
 rw [v4] at this
 have:=vj.mp this.2 vl hv
 have:=vj.mp this pc hc
 exact vj.mp this z hz
theorem km {k:Nat} {pr:Str} (hk:k < 6) (hp:pr∈preT):(pr++(⟨#[97+k]⟩:Str)).length≤3:=by
 have:=vj.mp kh k (vG.mpr hk)
 have:=vj.mp this pr hp
 rw [v4] at this
 exact of_decide_eq_true this.1
theorem pQ {vl:Str} (h:vl∈valT):vl.length≤4:=by
 have:valT.all (fun v=>decide (v.length≤4))=true:=by decide +kernel
 exact of_decide_eq_true (vj.mp this vl h)
theorem qk {vl:Str} (h:vl∈plaT):vl.length≤4:=by
 have:plaT.all (fun v=>decide (v.length≤4))=true:=by decide +kernel
 exact of_decide_eq_true (vj.mp this vl h)
theorem oy {k:Nat} {z:Str} (h:okL k z=true):∃e,lnF (wdF z)=some e∧eG e=some (97+k)∧z.length≤60:=by
 unfold okL at h
 split at h
 · rename_i e he
   rw [v4,beq_iff_eq,decide_eq_true_eq] at h
   exact ⟨e,he,h.1,h.2⟩
 · cases h
theorem qL {a b:Et} (h1:a.pl=b.pl) (h2:a.key=b.key):a.nam=b.nam:=by
 cases a with
 |fl x=>
  cases b with
  |fl y=>exact Tr.str.inj h2
  |nm y q=>cases h1
  |ca y qs q=>cases h1
 |nm x p=>
  cases b with
  |fl y=>cases h1
  |nm y q=>exact Tr.str.inj h2
  |ca y qs q=>cases h1
 |ca x ps p=>
  cases b with
  |fl y=>cases h1
  |nm y q=>cases h1
  |ca y qs q=>
   have h:=Tr.tup.inj h2
   injection h with h _
   exact Tr.str.inj h
theorem jR:∀(zs:List Str) (i:Nat) (es:List Et),(∀(j:Nat) (z:Str),zs[j]?=some z→∃e,lnF (wdF z)=some e∧eG e=some (97+(i+j)))→(∀a∈es,∃m,m < 97+i∧eG a=some m)→∃es',wkF i es zs= .inr es'
 | [],i,es,_,_=>⟨es,rfl⟩
 |z::r,i,es,h,hes=>by
  obtain ⟨e,e1,e2⟩:=h 0 z rfl
  have nh:hasE es e=false:=by
   rw [vT]
   intro q
   obtain ⟨a,ma,p,k⟩:=has_t.mp q
   obtain ⟨m,hm,lm⟩:=hes a ma
   have:eG a=eG e:=by unfold eG;rw [qL p k]
   rw [lm,e2] at this
   have:=vk this
   omega
  have st:stp es z=some (es++ [e]):=by unfold stp;rw [e1];exact if_neg (by rw [nh];decide)
  obtain ⟨es',q⟩:=jR r (i+1) (es++ [e]) (fun j z' ez=>by
   obtain ⟨e',a1,a2⟩:=h (j+1) z' ez
   exact ⟨e',a1,by rw [a2];congr 1;omega⟩) (fun a m=>by
   rcases vH.mp m with m|m
   · obtain ⟨m',hm,lm⟩:=hes a m
     exact ⟨m',by omega,lm⟩
   · rw [vo.mp m]
     exact ⟨97+i,by omega,e2⟩)
  exact ⟨es',by rw [wkF,st];exact q⟩
theorem cZ {xs:List Str} {r:Int} (h0:0≤r) (h1:r < xs.length):∃z∈xs,atI (xs.map V.str) r=some (.str z):=by
 obtain ⟨j,rfl⟩:∃j:Nat,r=(j:Int):=⟨r.toNat,by omega⟩
 have hj:j < xs.length:=by omega
 exact ⟨xs[j],List.getElem_mem hj,aR (by rw [vn,uV hj];rfl)⟩
theorem tE {k:Nat} (h:k < 6):atI (Str.ofString "abcdef").cps.toList (k:Int)=some (97+k):=by
 have e:(Str.ofString "abcdef").cps.toList=(List.range 6).map (97+ ·):=by decide +kernel
 refine aR ?_
 rw [e,vn,List.getElem?_range h]
 rfl
section
variable {P:Program} {w:World} {K:PySem.W.Frag} {mg:Str→Option Value} {base:Heap}
def jo (K:PySem.W.Frag):Sp:=fun vs H Q _=>∃(a:Addr) (ns:List Int),vs= [.ref a]∧SqL K H a (ns.map V.int)∧ns.length≤63∧
 ∀(l:Addr) (zs:List Str) (es:List Et) (H':Hp),H l=none→Same H H'→H' l=some (.lst (zs.map V.str))→zs.length≤6→(∀z∈zs,z.length≤60)→wkF 0 [] zs= .inr es→Q (.ref l) H'
theorem scMd:aN ["_law_script","_law_lines","_law_k","_law_name","_law_value","_law_place","_law_way","_law_some"] ["_law_script"] (af gh):=⟨rfl,rfl,rfl,by decide +kernel,rfl,by decide +kernel,by decide +kernel⟩
theorem qA {f fD:Addr} {fd dD:FuncData} (F:Fun K "_law_made" "_law_made" gh f fd) (B:Blt mg)
 (gD:FnOk P w K mg base CX0 1 fD dD ["_law_script","_law_k","_law_many"] (eY K)) (kD:PySem.W.keepIn K (.ref fD)=true) (bD:Binds K dD ["_law_script","_law_k","_law_many"] []) (mD:mg "_law_draw"=some (.ref fD)):FnOk P w K mg base CX0 2 f fd ["_law_script"] (jo K):=by
 refine F.ok scMd (fun vs H Q E h=> ?_) (fun cdv A outer s H vs Q E hr h=> ?_)
 · obtain ⟨a,ns,rfl,_⟩:=h
   rfl
 obtain ⟨a,ns,rfl,hS,h63,k⟩:=h
 refine ⟨_,a9 (ar (i:=1) scMd.nd rfl (Or.inl rfl) (bj a8))
  (a9 (d8 PassesOwn.never rfl (dQ rfl B.ra (a7 (au gD hr rfl mD kD bD .nil aL (a7 (pv 0) (a7 ac (a7 ac a8)))) a8)) (aY (i:=2) scMd.nd rfl (Or.inl rfl))
   (a9 (ar (i:=3) scMd.nd rfl (Or.inl rfl) (ak ay (aE av (bj (a7 ad (a7 ad (a7 ad (a7 ad a8))))) (au gD hr rfl mD kD bD .nil aL (a7 (pv 0) (a7 (ak aX ac (ak cy ac (pv 2))) (a7 ac a8)))) fun _ _=>rfl) (aE jC ad (pv 2) fun _ _=>rfl)))
   (a9 (ar (i:=4) scMd.nd rfl (Or.inl rfl) (aE av (bj (a7 ad (a7 ad (a7 ad (a7 ad (a7 ad a8)))))) (au gD hr rfl mD kD bD .nil aL (a7 (pv 0) (a7 (ak aX ac (ak cy ac (pv 2))) (a7 ac a8)))) fun _ _=>rfl))
   (a9 (ar (i:=5) scMd.nd rfl (Or.inl rfl) (aE av (bj (a7 ad (a7 ad (a7 ad a8)))) (au gD hr rfl mD kD bD .nil aL (a7 (pv 0) (a7 (ak aX ac (ak cy ac (pv 2))) (a7 ac a8)))) fun _ _=>rfl))
   (a9 (ar (i:=6) scMd.nd rfl (Or.inl rfl) (au gD hr rfl mD kD bD .nil aL (a7 (pv 0) (a7 (ak aX ac (ak cy ac (pv 2))) (a7 ac a8)))))
   (a9 (ar (i:=7) scMd.nd rfl (Or.inl rfl) (bj (a7 (ak ay ad (pv 3)) (a7 (ak ay (ak ay (ak ay ad (pv 3)) ad) (pv 4)) (a7 (ak ay (ak ay (ak ay (ak ay (ak ay ad (pv 3)) ad) (pv 5)) ad) (pv 4)) a8)))))
   (ag (c9 (bO PySem.F.plainAttrs_list PySem.F.slot_list_append PySem.F.type_list_append cr (pv 1) (a7 (aE av (ak d9 (pv 7) (bj (a7 (bO PySem.F.plainAttrs_str PySem.F.slot_str_join PySem.F.type_str_join kr ad (a7 (bj (a7 ad (a7 (pv 3) (a7 (pv 5) (a7 (pv 4) (a7 ad (a7 ad (a7 (pv 4) a8)))))))) a8)) a8))) (pv 6) fun _ _=>rfl) a8))))))))))
  (ag (aA (pv 1)))),?_⟩
 have hZ:(20000:Nat)≤sizeLine:=by decide +kernel
 refine ⟨by show 0≤sizeLine;decide,fun L nL=> ?_⟩
 have s1:=ae (o:= .lst []) nL
 have hL1:(upd H L (.lst [])) L=some (.lst []):=aa
 generalize upd H L (.lst [])=H1 at s1 hL1
 refine aM ?_
 try dsimp only
 refine ⟨_,rfl,a,ns,0,7,rfl,SqL.same s1 hS,h63,by decide,by decide,by decide,fun r r0 r7=> ?_⟩
 refine ⟨r.toNat,by rw [Int.toNat_of_nonneg r0],by omega,by omega,?_⟩
 refine dX (n:=r.toNat) (fun i σ H'=>Same H H'∧∃(zs:List Str) (x2 x3 x4 x5 x6 x7:Option V),σ= [some (.ref a),some (.ref L),x2,x3,x4,x5,x6,x7]∧H' L=some (.lst (zs.map V.str))∧zs.length=i∧∀(j:Nat) (z:Str),zs[j]?=some z→okL j z=true)
  ⟨s1,[],none,none,none,none,none,none,rfl,hL1,rfl,fun j z e=>by simp at e⟩ ?_ ?_
 · rintro i σ H2 hi ⟨s2,zs,x2,x3,x4,x5,x6,x7,rfl,hL2,lz,hz⟩
   have i6:i < 6:=by omega
   refine aM ?_
   try dsimp only
   rw [show (0:Int)+(i:Int)=(i:Int) by omega]
   have hS2:=SqL.same s2 hS
   refine az (fun σ' H3=>Same H2 H3∧∃pr∈preT,σ'= [some (.ref a),some (.ref L),some (.int (i:Int)),some (.str (pr++(⟨#[97+i]⟩:Str))),x4,x5,x6,x7]) ?_ fun nx hnx=> ?_
   rotate_left
   · refine ⟨by show 4≤sizeLine;decide,fun l1 n1=> ?_⟩
     have q1:=ae (o:= .lst (preT.map V.str)) n1
     refine ⟨_,rfl,_,rfl,5,_,rfl,rfl, .inl ⟨by decide,by decide⟩,_,_,rfl,rfl,a,ns,_,4,rfl,SqL.same q1 hS2,h63,by omega,by omega,by decide,fun t t0 t4=> ?_⟩
     obtain ⟨pr,mp,ep⟩:=cZ (xs:=preT) t0 (by show t < 4;exact t4)
     have ln:=km i6 mp
     rw [aU] at ln
     refine ⟨l1,_,t,_,rfl,rfl,SqL.of aa,ep,_,rfl,_,_,_,rfl,rfl,by decide +kernel,tE i6,_,_,rfl,rfl,by omega,hnx _ _ ⟨q1,pr,mp,rfl⟩⟩
   rintro _ H3 ⟨s3,pr,mp,rfl⟩
   have ln:=km i6 mp
   have hS3:=SqL.same s3 hS2
   refine az (fun σ' H4=>Same H3 H4∧∃vl∈valT,σ'= [some (.ref a),some (.ref L),some (.int (i:Int)),some (.str (pr++(⟨#[97+i]⟩:Str))),some (.str vl),x5,x6,x7]) ?_ fun nx hnx=> ?_
   rotate_left
   · refine ⟨by show 5≤sizeLine;decide,fun l1 n1=> ?_⟩
     have q1:=ae (o:= .lst (valT.map V.str)) n1
     refine ⟨_,rfl,_,rfl,5,_,rfl,rfl, .inl ⟨by decide,by decide⟩,_,_,rfl,rfl,a,ns,_,5,rfl,SqL.same q1 hS3,h63,by omega,by omega,by decide,fun t t0 t4=> ?_⟩
     obtain ⟨vl,mv,ev⟩:=cZ (xs:=valT) t0 (by show t < 5;exact t4)
     exact ⟨l1,_,t,_,rfl,rfl,SqL.of aa,ev,hnx _ _ ⟨q1,vl,mv,rfl⟩⟩
   rintro _ H4 ⟨s4,vl,mv,rfl⟩
   have lv:=pQ mv
   have hS4:=SqL.same s4 hS3
   refine az (fun σ' H5=>Same H4 H5∧∃pc∈plaT,σ'= [some (.ref a),some (.ref L),some (.int (i:Int)),some (.str (pr++(⟨#[97+i]⟩:Str))),some (.str vl),some (.str pc),x6,x7]) ?_ fun nx hnx=> ?_
   rotate_left
   · refine ⟨by show 3≤sizeLine;decide,fun l1 n1=> ?_⟩
     have q1:=ae (o:= .lst (plaT.map V.str)) n1
     refine ⟨_,rfl,_,rfl,5,_,rfl,rfl, .inl ⟨by decide,by decide⟩,_,_,rfl,rfl,a,ns,_,3,rfl,SqL.same q1 hS4,h63,by omega,by omega,by decide,fun t t0 t4=> ?_⟩
     obtain ⟨pc,mc,ec⟩:=cZ (xs:=plaT) t0 (by show t < 3;exact t4)
     exact ⟨l1,_,t,_,rfl,rfl,SqL.of aa,ec,hnx _ _ ⟨q1,pc,mc,rfl⟩⟩
   rintro _ H5 ⟨s5,pc,mc,rfl⟩
   have lc:=qk mc
   have hS5:=SqL.same s5 hS4
   refine ⟨_,rfl,_,rfl,5,_,rfl,rfl, .inl ⟨by decide,by decide⟩,_,_,rfl,rfl,a,ns,_,4,rfl,hS5,h63,by omega,by omega,by decide,fun t t0 t4=> ?_⟩
   refine aM ?_
   try dsimp only
   have l5:(Str.ofString "flag ").length=5:=by decide +kernel
   have l6:(Str.ofString "name ").length=5:=by decide +kernel
   have l7:(Str.ofString "call ").length=5:=by decide +kernel
   have l8:(Str.ofString " ").length=1:=by decide +kernel
   have l9:(Str.ofString " = ").length=3:=by decide +kernel
   have la:(Str.ofString "call").length=4:=by decide +kernel
   have lb:(Str.ofString "0").length=1:=by decide +kernel
   have lc':(Str.ofString "=").length=1:=by decide +kernel
   have mem:∀z∈fi (pr++⟨#[97+i]⟩) vl pc,okL i z=true:=fun z m=>t8 i6 mp mv mc m
   have hL5:=s5 _ _ (s4 _ _ (s3 _ _ hL2))
   have s25:=s2.trans (s3.trans (s4.trans s5))
   generalize (pr++(⟨#[97+i]⟩:Str))=nm at ln mem ⊢
   refine ⟨_,rfl,_,_,rfl,rfl,by omega,_,rfl,_,_,rfl,rfl,by omega,_,_,rfl,rfl,by rw [aU];omega,_,rfl,_,_,rfl,rfl,by rw [aU,aU];omega,
    _,rfl,_,_,rfl,rfl,by omega,_,_,rfl,rfl,by rw [aU];omega,_,rfl,_,_,rfl,rfl,by rw [aU,aU];omega,_,_,rfl,rfl,by rw [aU,aU,aU];omega,_,rfl,_,_,rfl,rfl,by rw [aU,aU,aU,aU];omega,by show 3≤sizeLine;decide,fun l1 n1=> ?_⟩
   refine aM ?_
   try dsimp only
   have q1:=ae (o:= .lst [V.str (Str.ofString "flag "++nm),V.str (Str.ofString "name "++nm++Str.ofString " "++vl),V.str (Str.ofString "call "++nm++Str.ofString " "++pc++Str.ofString " = "++vl)]) n1
   have h6:(upd H5 l1 (.lst [V.str (Str.ofString "flag "++nm),V.str (Str.ofString "name "++nm++Str.ofString " "++vl),V.str (Str.ofString "call "++nm++Str.ofString " "++pc++Str.ofString " = "++vl)])) l1=some (.lst [V.str (Str.ofString "flag "++nm),V.str (Str.ofString "name "++nm++Str.ofString " "++vl),V.str (Str.ofString "call "++nm++Str.ofString " "++pc++Str.ofString " = "++vl)]):=aa
   generalize upd H5 l1 (.lst [V.str (Str.ofString "flag "++nm),V.str (Str.ofString "name "++nm++Str.ofString " "++vl),V.str (Str.ofString "call "++nm++Str.ofString " "++pc++Str.ofString " = "++vl)])=H6 at q1 h6
   have hL6:=q1 _ _ hL5
   have s26:=s25.trans q1
   refine ⟨_,rfl, .inl ⟨rfl,_,SqL.of hL6⟩,_,rfl,rfl,_,rfl,_,rfl,_,rfl,_,rfl,by show 7≤sizeLine;decide,fun l2 n2=> ?_⟩
   have q2:=ae (o:= .lst [V.str (Str.ofString "call"),V.str nm,V.str pc,V.str vl,V.str (Str.ofString "0"),V.str (Str.ofString "="),V.str vl]) n2
   refine ⟨Str.ofString " ",l2,[Str.ofString "call",nm,pc,vl,Str.ofString "0",Str.ofString "=",vl],rfl,rfl,SqL.of aa,?_,?_⟩
   · simp only [uZ,List.map_nil,List.sum_cons,List.sum_nil,uU,vR]
     omega
   have h7:=q2 _ _ h6
   have hL7:=q2 _ _ hL6
   have s27:=s26.trans q2
   generalize upd H6 l2 (.lst [V.str (Str.ofString "call"),V.str nm,V.str pc,V.str vl,V.str (Str.ofString "0"),V.str (Str.ofString "="),V.str vl])=H7 at h7 hL7 s27 ⊢
   refine ⟨by show 1≤sizeLine;decide,fun l3 n3=> ?_⟩
   have q3:=ae (o:= .lst [V.str (Txt.join (Str.ofString " ") [Str.ofString "call",nm,pc,vl,Str.ofString "0",Str.ofString "=",vl])]) n3
   refine ⟨l1,l3,_,_,rfl,rfl,q3 _ _ h7,aa,by show 4≤sizeLine;decide,fun p np=> ?_⟩
   have q4:=ae (o:= .lst ((fi nm vl pc).map V.str)) np
   obtain ⟨z,mz,ez⟩:=cZ (xs:=fi nm vl pc) t0 (by show t < 4;exact t4)
   have hL9:=q4 _ _ (q3 _ _ hL7)
   refine ⟨_,rfl,p,_,t,_,rfl,rfl,SqL.of aa,ez,L,_,_,rfl,rfl,hL9,by rw [uT];omega,?_⟩
   refine ⟨b8 nL (s27.trans (q3.trans q4)),zs++ [z],_,_,_,_,_,_,rfl,?_,by rw [vc,vz,lz],fun j y ey=> ?_⟩
   · rw [vp]
     exact aa
   · rcases Nat.lt_or_ge j zs.length with q|q
     · rw [List.getElem?_append_left q] at ey
       exact hz j y ey
     · rw [List.getElem?_append_right q] at ey
       cases e:j - zs.length with
       |zero=>
        rw [e] at ey
        cases ey
        have:j=i:=by omega
        rw [this]
        exact mem z mz
       |succ m=>
        rw [e] at ey
        simp at ey
 · rintro σ H2 ⟨s2,zs,x2,x3,x4,x5,x6,x7,rfl,hL2,lz,hz⟩
   have hz':∀(j:Nat) (z:Str),zs[j]?=some z→∃e,lnF (wdF z)=some e∧eG e=some (97+(0+j)):=fun j z e=>by
    obtain ⟨e',q1,q2,_⟩:=oy (hz j z e)
    exact ⟨e',q1,by rw [q2];congr 1;omega⟩
   obtain ⟨es,we⟩:=jR zs 0 [] hz' (fun a m=>by cases m)
   refine ⟨_,rfl,k L zs es H2 nL s2 hL2 (by omega) (fun z m=> ?_) we⟩
   obtain ⟨j,hj,rfl⟩:=List.getElem_of_mem m
   exact (oy (hz j _ (uV hj))).choose_spec.2.2
end
open PySem PySem.NumText L2 Mth Dec Tre Wd Spl Dj
structure Gl_ (n m:Nat) (zs:List Str):Prop where
 n:zs.length≤n
 m:∀z∈zs,z.length≤m
noncomputable def odd1:List Str:= [Str.ofString "",Str.ofString "flag",Str.ofString "flag a",Str.ofString "flag A",Str.ofString "name a",Str.ofString "name a 1/0",Str.ofString "name a 2/4",Str.ofString "name a 1 2"]
noncomputable def odd2:List Str:= [Str.ofString "call f = 1",Str.ofString "call f 1 1 1 1 = 2",Str.ofString "call f 1 = ",Str.ofString "call f 1 2"]
noncomputable def odd3:List Str:= [Str.ofString "call f 1 = 1",Str.ofString "call f 01 = 1",Str.ofString "flag abcdefghi",Str.ofString " flag a"]
noncomputable def oddT:List Str:=odd1++odd2++odd3
noncomputable def strT:List Str:= [Str.ofString "",Str.ofString "=",Str.ofString "0",Str.ofString "a",Str.ofString "-1",Str.ofString "1/2",Str.ofString "call",Str.ofString "00",Str.ofString "-0",Str.ofString "3/3"]
theorem qE {z:Str} (h:z∈oddT):z.length≤20:=by
 have:oddT.all (fun v=>decide (v.length≤20))=true:=by decide +kernel
 exact of_decide_eq_true (vj.mp this z h)
theorem pX {z:Str} (h:z∈strT):z.length≤4:=by
 have:strT.all (fun v=>decide (v.length≤4))=true:=by decide +kernel
 exact of_decide_eq_true (vj.mp this z h)
def wl (ws:List Str):Nat:=(ws.map fun w=>w.length+1).sum
theorem jh (ys:List Str):wl ys=(ys.map (·.length)).sum+ys.length:=by
 induction ys with
 |nil=>rfl
 |cons y r ih=>
  unfold wl at ih ⊢
  rw [uZ,List.sum_cons,ih,uZ,List.sum_cons,uU]
  omega
theorem mm (ys:List Str) (h:ys≠ []):(Txt.join (Str.ofString " ") ys).length+1=wl ys:=by
 have e:=PySem.size_glued (Str.ofString " ") ys
 have l1:(Str.ofString " ").length=1:=by decide +kernel
 have hp:0 < ys.length:=List.length_pos_iff.mpr h
 rw [l1,Nat.mul_one] at e
 rw [jh]
 have e':(Txt.join (Str.ofString " ") ys).length=(ys.map (·.length)).sum+(ys.length - 1):=e
 omega
theorem sj (a b:List Str):wl (a++b)=wl a+wl b:=by simp [wl,List.sum_append]
theorem mO:∀(ws:List Str) (i:Nat) (w:Str),wl (ws.set i w)≤wl ws+w.length
 | [],i,w=>by simp [wl]
 |v::ws,0,w=>by
  show wl (w::ws)≤_
  simp only [wl,uZ,List.sum_cons]
  omega
 |v::ws,i+1,w=>by
  have:=mO ws i w
  show wl (v::ws.set i w)≤_
  simp only [wl,uZ,List.sum_cons] at this ⊢
  omega
theorem u7 (z:Str):wdF z≠ []:=by
 obtain ⟨h,r,e⟩:=cC 32 (cl z)
 unfold wdF
 rw [e]
 simp
theorem u6 (z:Str):wl (wdF z)=z.length+1:=by
 have h:∀ws:List (List Nat),ws≠ []→wl (ws.map mkS)=(glue 32 ws).length+1:=by
  intro ws
  induction ws with
  |nil=>intro h;exact absurd rfl h
  |cons w r ih=>
   intro _
   cases r with
   |nil=>simp [wl,glue,bJ]
   |cons v r=>
    have:=ih (by simp)
    have e:(glue 32 (w::v::r)).length=w.length+((glue 32 (v::r)).length+1):=by
     show (w++32::glue 32 (v::r)).length=_
     simp
    rw [e]
    have e2:wl ((w::v::r).map mkS)=w.length+1+wl ((v::r).map mkS):=by simp [wl,bJ]
    rw [e2,this]
    omega
 unfold wdF
 obtain ⟨a,r,e⟩:=cC 32 (cl z)
 rw [h _ (by rw [e];simp),cu,aG]
theorem cK {z:Str} {i:Nat} (h1:i≤z.length):(Txt.slice z none (some (i:Int))).length=i:=by
 have:=(PyProof.Rows.fact_slice_ns z (i:Int)).1 (by omega) (by omega)
 omega
theorem fo (z:Str) (i:Nat):(Txt.slice z (some (i:Int)) none).length≤z.length - i:=by
 by_cases h:(i:Int)≤(z.length:Int)
 · have:=(PyProof.Rows.fact_slice_sn z (i:Int)).1 (by omega) h
   omega
 · have:=(PyProof.Rows.fact_slice_sn z (i:Int)).2 (by omega)
   omega
theorem Gl_.set {n m m':Nat} {zs:List Str} (h:Gl_ n m zs) {i:Nat} {z:Str} (hz:z.length≤m') (hm:m≤m'):Gl_ (n+1) m' (zs.set i z):=by
 refine ⟨by rw [List.length_set];exact Nat.le_succ_of_le h.n,fun y my=> ?_⟩
 rcases List.mem_or_eq_of_mem_set my with q|q
 · exact vh (h.m y q) hm
 · rw [q];exact hz
theorem Gl_.ins {n m m':Nat} {zs:List Str} (h:Gl_ n m zs) (i:Nat) {z:Str} (hz:z.length≤m') (hm:m≤m'):Gl_ (n+1) m' (zs.take i++z::zs.drop i):=by
 refine ⟨?_,fun y my=> ?_⟩
 · have:=congrArg List.length (List.take_append_drop i zs)
   rw [vc] at this
   rw [vc,uU]
   have:=h.n
   omega
 · rcases vH.mp my with q|q
   · exact vh (h.m y (List.mem_of_mem_take q)) hm
   · rcases vd.mp q with q|q
     · rw [q];exact hz
     · exact vh (h.m y (List.mem_of_mem_drop q)) hm
theorem ku (zs:List Str) (i:Nat) (z:Str):(zs.map V.str).take i++V.str z::(zs.map V.str).drop i=(zs.take i++z::zs.drop i).map V.str:=by
 rw [vp,uZ,List.map_take,List.map_drop]
theorem gq {α β:Type} (f:α→β):∀(xs:List α) (i:Nat),(xs.map f).eraseIdx i=(xs.eraseIdx i).map f
 | [],_=>rfl
 |x::xs,0=>rfl
 |x::xs,i+1=>by
  show f x::(xs.map f).eraseIdx i=f x::(xs.eraseIdx i).map f
  rw [gq f xs i]
theorem qb (d:Nat):(List.replicate d [V.str (Str.ofString "")]).flatten=(List.replicate d (Str.ofString "")).map V.str:=by
 induction d with
 |zero=>rfl
 |succ d ih=>rw [vJ,vS,ih,vJ,uZ];rfl
theorem iU {n:Nat} {r:Int} (h0:0≤r) (h1:r < (n:Int)):∃j:Nat,r=(j:Int)∧j < n∧ixN n r=some j:=by
 obtain ⟨j,rfl⟩:∃j:Nat,r=(j:Int):=⟨r.toNat,by omega⟩
 refine ⟨j,rfl,by omega,?_⟩
 unfold ixN
 rw [if_pos (by omega),if_pos h1]
 simp
section
variable {P:Program} {w:World} {K:PySem.W.Frag} {mg:Str→Option Value} {base:Heap}
def nJ (K:PySem.W.Frag):Sp:=fun vs H Q _=>∃(a l:Addr) (ns:List Int) (kk:Nat) (zs:List Str) (n m:Nat),vs= [.ref a, .int (kk:Int), .ref l]∧SqL K H a (ns.map V.int)∧ns.length≤63∧kk≤1000∧H l=some (.lst (zs.map V.str))∧Gl_ n m zs∧n≤30∧20≤m∧m≤150∧
 ∀(l':Addr) (zs':List Str) (H':Hp),H l'=none→Same H H'→H' l'=some (.lst (zs'.map V.str))→Gl_ (n+1) (m+6) zs'→Q (.ref l') H'
theorem scSp:aN ["_law_script","_law_k","_law_lines","_law_some","_law_odd","_law_way","_law_at","_law_text","_law_place","_law_sign","_law_words","_law_strange"] ["_law_script","_law_k","_law_lines"] (af sSpo):=⟨rfl,rfl,rfl,by decide +kernel,rfl,by decide +kernel,by decide +kernel⟩
theorem sX {f fD:Addr} {fd dD:FuncData} (F:Fun K "_law_spoiled" "_law_spoiled" sSpo f fd) (B:Blt mg)
 (gD:FnOk P w K mg base CX0 1 fD dD ["_law_script","_law_k","_law_many"] (eY K)) (kD:PySem.W.keepIn K (.ref fD)=true) (bD:Binds K dD ["_law_script","_law_k","_law_many"] []) (mD:mg "_law_draw"=some (.ref fD)):FnOk P w K mg base CX0 2 f fd ["_law_script","_law_k","_law_lines"] (nJ K):=by
 refine F.ok scSp (fun vs H Q E h=> ?_) (fun cdv A outer s H vs Q E hr h=> ?_)
 · obtain ⟨a,l,ns,kk,zs,n,m,rfl,_⟩:=h
   rfl
 obtain ⟨a,l,ns,kk,zs,n,m,rfl,hS,h63,hkk,hl,hG,n30,m20,m150,k⟩:=h
 refine ⟨_,a9 (ar (i:=3) scSp.nd rfl (Or.inl rfl) (aJ bx rfl B.li PyProof.Rows.boot_list (a7 (pv 2) a8)))
  (a9 (ar (i:=4) scSp.nd rfl (Or.inl rfl) (bj (a7 ad (a7 ad (a7 ad (a7 ad (a7 ad (a7 ad (a7 ad (a7 ad a8))))))))))
  (a9 (ar (i:=4) scSp.nd rfl (Or.inl rfl) (ak d9 (pv 4) (bj (a7 ad (a7 ad (a7 ad (a7 ad a8)))))))
  (a9 (ar (i:=4) scSp.nd rfl (Or.inl rfl) (ak d9 (pv 4) (bj (a7 ad (a7 ad (a7 ad (a7 ad a8)))))))
  (a9 (ar (i:=5) scSp.nd rfl (Or.inl rfl) (au gD hr rfl mD kD bD .nil aL (a7 (pv 0) (a7 (pv 1) (a7 ac a8)))))
  (a9 (aS (PW.pt (bf (ah b9 (aq am rfl B.le PySem.boot_len (a7 (pv 3) a8)) ac (ao _)) (bi (ah b9 (pv 5) ac (ao _)))))
   (a9 (c9 (bO PySem.F.plainAttrs_list PySem.F.slot_list_insert PySem.F.type_list_insert gp (pv 3) (a7 (au gD hr rfl mD kD bD .nil aL (a7 (pv 0) (a7 (ak aX (pv 1) ac) (a7 (ak aX (aq am rfl B.le PySem.boot_len (a7 (pv 3) a8)) ac) a8)))) (a7 (aE av (pv 4) (au gD hr rfl mD kD bD .nil aL (a7 (pv 0) (a7 (ak aX (pv 1) ac) (a7 ac a8)))) fun _ _=>rfl) a8))))
   (ag (aA (pv 3)))) aw)
  (a9 (ar (i:=6) scSp.nd rfl (Or.inl rfl) (au gD hr rfl mD kD bD .nil aL (a7 (pv 0) (a7 (ak aX (pv 1) ac) (a7 (aq am rfl B.le PySem.boot_len (a7 (pv 3) a8)) a8)))))
  (a9 (ar (i:=7) scSp.nd rfl (Or.inl rfl) (aE av (pv 3) (pv 6) fun _ _=>rfl))
  (a9 (ar (i:=8) scSp.nd rfl (Or.inl rfl) (au gD hr rfl mD kD bD .nil aL (a7 (pv 0) (a7 (ak aX (pv 1) ac) (a7 (ak aX (aq bz rfl B.le PySem.boot_len (a7 (pv 7) a8)) ac) a8)))))
  (a9 (ar (i:=9) scSp.nd rfl (Or.inl rfl) (aE jC ad (au gD hr rfl mD kD bD .nil aL (a7 (pv 0) (a7 (ak aX (pv 1) ac) (a7 ac a8)))) fun _ _=>rfl))
  (a9 (aS (ah b9 (pv 5) ac (ao _)) (ag (c9 (bO PySem.F.plainAttrs_list PySem.F.slot_list_insert PySem.F.type_list_insert gp (pv 3) (a7 (au gD hr rfl mD kD bD .nil aL (a7 (pv 0) (a7 (ak aX (pv 1) ac) (a7 (ak aX (aq am rfl B.le PySem.boot_len (a7 (pv 3) a8)) ac) a8)))) (a7 (pv 7) a8))))) aw)
  (a9 (aS (ah b9 (pv 5) ac (ao _)) (ag (c9 (bO PySem.F.plainAttrs_list PySem.F.slot_list_pop PySem.F.type_list_pop oG (pv 3) (a7 (pv 6) a8)))) aw)
  (a9 (aS (ah b9 (pv 5) ac (ao _)) (ag (cQ (ak ay (ak ay (bc ci (pv 7) bw (be (pv 8))) (pv 9)) (bc ci (pv 7) (be (pv 8)) bw)) (f9 (pv 3) (pv 6) cM))) aw)
  (a9 (aS (ah b9 (pv 5) ac (ao _)) (ag (cQ (ak ay (bc ci (pv 7) bw (be (pv 8))) (bc ci (pv 7) (be (ak aX (pv 8) ac)) bw)) (f9 (pv 3) (pv 6) cM))) aw)
  (a9 (aS (ah b9 (pv 5) ac (ao _)) (ag (cQ (ak ay (ak ay (bc ci (pv 7) bw (be (pv 8))) (pv 9)) (bc ci (pv 7) (be (ak aX (pv 8) ac)) bw)) (f9 (pv 3) (pv 6) cM))) aw)
  (a9 (aS (ah b9 (pv 5) ac (ao _))
   (a9 (ar (i:=10) scSp.nd rfl (Or.inl rfl) (ak d9 (bO PySem.F.plainAttrs_str PySem.F.slot_str_split PySem.F.type_str_split dB (pv 7) (a7 ad a8)) (ak sS (bj (a7 ad a8)) (au gD hr rfl mD kD bD .nil aL (a7 (pv 0) (a7 (ak aX (pv 1) ac) (a7 ac a8)))))))
   (a9 (ar (i:=11) scSp.nd rfl (Or.inl rfl) (bj (a7 ad (a7 ad (a7 ad (a7 ad (a7 ad (a7 ad (a7 ad (a7 ad (a7 ad (a7 ad a8))))))))))))
   (a9 (cQ (aE av (pv 11) (au gD hr rfl mD kD bD .nil aL (a7 (pv 0) (a7 (ak aX (pv 1) ac) (a7 ac a8)))) fun _ _=>rfl) (f9 (pv 10) (au gD hr rfl mD kD bD .nil aL (a7 (pv 0) (a7 (ak aX (pv 1) ac) (a7 (aq am rfl B.le PySem.boot_len (a7 (pv 10) a8)) a8)))) cM))
   (ag (cQ (bO PySem.F.plainAttrs_str PySem.F.slot_str_join PySem.F.type_str_join kr ad (a7 (pv 10) a8)) (f9 (pv 3) (pv 6) cM)))))) aw)
  (ag (aA (pv 3)))))))))))))))))),?_⟩
 have hZ:(20000:Nat)≤sizeLine:=by decide +kernel
 have zl:=hG.n
 refine ⟨_,rfl,l,_,rfl, .inl (SqL.of hl),fun S nS=> ?_⟩
 have s1:=ae (o:= .lst (zs.map V.str)) nS
 have hS1:(upd H S (.lst (zs.map V.str))) S=some (.lst (zs.map V.str)):=aa
 generalize upd H S (.lst (zs.map V.str))=H1 at s1 hS1
 refine aM ?_
 try dsimp only
 refine az (fun σ' H2=>Same H1 H2∧∃O,H2 O=some (.lst (odd1.map V.str))∧σ'= [some (.ref a),some (.int (kk:Int)),some (.ref l),some (.ref S),some (.ref O),none,none,none,none,none,none,none]) ?_ fun nx hnx=> ?_
 rotate_left
 · exact ⟨by show 8≤sizeLine;decide,fun O nO=>hnx _ _ ⟨ae nO,O,aa,rfl⟩⟩
 rintro _ H2 ⟨s2,O2,hO2,rfl⟩
 refine az (fun σ' H3=>Same H2 H3∧∃O,H3 O=some (.lst ((odd1++odd2).map V.str))∧σ'= [some (.ref a),some (.int (kk:Int)),some (.ref l),some (.ref S),some (.ref O),none,none,none,none,none,none,none]) ?_ fun nx hnx=> ?_
 rotate_left
 · refine ⟨_,rfl,by show 4≤sizeLine;decide,fun o no=> ?_⟩
   have q:=ae (o:= .lst (odd2.map V.str)) no
   exact ⟨O2,o,_,_,rfl,rfl,q _ _ hO2,aa,by show 12≤sizeLine;decide,fun O nO=>hnx _ _ ⟨q.trans (ae nO),O,aa,rfl⟩⟩
 rintro _ H3 ⟨s3,O3,hO3,rfl⟩
 refine az (fun σ' H4=>Same H3 H4∧∃O,H4 O=some (.lst (oddT.map V.str))∧σ'= [some (.ref a),some (.int (kk:Int)),some (.ref l),some (.ref S),some (.ref O),none,none,none,none,none,none,none]) ?_ fun nx hnx=> ?_
 rotate_left
 · refine ⟨_,rfl,by show 4≤sizeLine;decide,fun o no=> ?_⟩
   have q:=ae (o:= .lst (odd3.map V.str)) no
   exact ⟨O3,o,_,_,rfl,rfl,q _ _ hO3,aa,by show 16≤sizeLine;decide,fun O nO=>hnx _ _ ⟨q.trans (ae nO),O,aa,rfl⟩⟩
 rintro _ H4 ⟨s4,O,hO,rfl⟩
 have s04:=s1.trans (s2.trans (s3.trans s4))
 have hS4:=s4 _ _ (s3 _ _ (s2 _ _ hS1))
 have hA:=SqL.same s04 hS
 clear hS1 hO2 hO3 s1 s2 s3 s4
 refine ⟨_,rfl,_,rfl,a,ns,_,7,rfl,hA,h63,by omega,by omega,by decide,fun wy w0 w7=> ?_⟩
 refine aM ?_
 try dsimp only
 have fin:∀(zs':List Str) (H':Hp),Same H H'→H' S=some (.lst (zs'.map V.str))→Gl_ (n+1) (m+6) zs'→Q (.ref S) H':=fun zs' H' a b c=>k S zs' H' nS a b c
 have szL:∀ {xs:List V},xs.length≤40→xs.length < sizeLine:=fun h=>by omega
 refine az (fun σ' H'=>H4=H'∧σ'= [some (.ref a),some (.int (kk:Int)),some (.ref l),some (.ref S),some (.ref O),some (.int wy),none,none,none,none,none,none]∧0 < zs.length∧wy≠0) ?_ fun nx hnx=> ?_
 rotate_left
 · refine ⟨_,rfl,S,_,rfl, .inl (SqL.of hS4),rfl,_,rfl,?_⟩
   rw [uT]
   refine dite (zs.length=0) (fun e0=>if_t (decide_eq_true (by rw [e0];rfl)) ?_) fun e0=>if_f (decide_eq_false fun q=>e0 (by have q:=V.int.inj q;omega)) ⟨_,rfl,rfl,_,rfl,dite (wy=0) (fun ew=>if_t (decide_eq_true (by rw [ew])) ?_) fun ew=>if_f (decide_eq_false fun q=>ew (V.int.inj q)) (hnx _ _ ⟨rfl,rfl,by omega,ew⟩)⟩
   all_goals
    refine ⟨_,rfl, .inl ⟨rfl,_,SqL.of hS4⟩,_,rfl,_,rfl,_,_,rfl,rfl,_,rfl,S,_,rfl, .inl (SqL.of hS4),_,_,rfl,rfl,a,ns,_,_,rfl,hA,h63,by omega,by omega,by rw [uT];omega,fun i i0 i1=> ?_⟩
    rw [uT] at i1
    refine ⟨_,rfl,_,rfl,_,rfl,_,_,rfl,rfl,a,ns,_,16,rfl,hA,h63,by omega,by omega,by decide,fun t t0 t16=> ?_⟩
    obtain ⟨z,mz,ez⟩:=cZ (xs:=oddT) t0 (by show t < 16;exact t16)
    have lz:=qE mz
    refine ⟨O,_,t,_,rfl,rfl,SqL.of hO,ez,S,_,_,_,i.toNat,rfl,rfl,by omega,hS4,by rw [uT];omega,by rw [uT];omega,?_⟩
    rw [ku]
    exact ⟨_,rfl,fin _ _ (b8 nS s04) aa (hG.ins _ (by omega) (by omega))⟩
 rintro _ _ ⟨rfl,rfl,z0,wn⟩
 refine ⟨_,rfl,_,rfl,_,_,rfl,rfl,_,rfl,S,_,rfl, .inl (SqL.of hS4),a,ns,_,_,rfl,hA,h63,by omega,by omega,by rw [uT];omega,fun at_ a0 a1=> ?_⟩
 rw [uT] at a1
 refine aM ?_
 try dsimp only
 obtain ⟨ai,rfl,ail,aix⟩:=iU a0 a1
 obtain ⟨tx,ex⟩:∃tx,zs[ai]?=some tx:=⟨zs[ai],uV ail⟩
 have lx:=hG.m tx (vi ex)
 have eat:atI (zs.map V.str) (ai:Int)=some (.str tx):=aR (by rw [vn,ex];rfl)
 refine ⟨_,rfl,_,rfl,S,_,_,_,rfl,rfl,SqL.of hS4,eat,?_⟩
 refine aM ?_
 try dsimp only
 refine ⟨_,rfl,_,rfl,_,_,rfl,rfl,_,rfl,tx,rfl,by omega,_,_,rfl,rfl,a,ns,_,_,rfl,hA,h63,by omega,by omega,by omega,fun pl_ p0 p1=> ?_⟩
 obtain ⟨pl,rfl⟩:∃j:Nat,pl_=(j:Int):=⟨pl_.toNat,by omega⟩
 refine aM ?_
 try dsimp only
 refine ⟨_,rfl,_,rfl,_,_,rfl,rfl,a,ns,_,10,rfl,hA,h63,by omega,by omega,by decide,fun t t0 t10=> ?_⟩
 obtain ⟨tn,rfl⟩:∃j:Nat,t=(j:Int):=⟨t.toNat,by omega⟩
 have sgl:(Str.ofString "a0-/ =1fzA").cps.toList.length=10:=by decide +kernel
 have eat2:atI (Str.ofString "a0-/ =1fzA").cps.toList (tn:Int)=some ((Str.ofString "a0-/ =1fzA").cps.toList[tn]'(by rw [sgl];omega)):=aR (uV _)
 generalize ((Str.ofString "a0-/ =1fzA").cps.toList[tn]'(by rw [sgl];omega))=c at eat2
 refine ⟨_,_,_,rfl,rfl,by decide +kernel,eat2,?_⟩
 refine aM ?_
 try dsimp only
 have lc:((⟨#[c]⟩:Str)).length=1:=rfl
 generalize (⟨#[c]⟩:Str)=sg_ at lc
 have hA0:=hS
 suffices hall:∀(σ':L2.St) (H6:Hp),(fun σ' H'=>Same H H'∧∃(zs':List Str) (x10 x11:Option V),σ'= [some (.ref a),some (.int (kk:Int)),some (.ref l),some (.ref S),some (.ref O),some (.int wy),some (.int (ai:Int)),some (.str tx),some (.int (pl:Int)),some (.str sg_),x10,x11]∧H' S=some (.lst (zs'.map V.str))∧((zs'=zs∧1≤wy)∨(wy < 1∧Gl_ (n+1) (m+6) zs'))) σ' H6→_ from hall _ _ ⟨s04,zs,none,none,rfl,hS4, .inl ⟨rfl,by omega⟩⟩
 rintro _ H6 ⟨sH,zs',x10,x11,rfl,hS',hz'⟩
 refine az (fun σ' H'=>Same H H'∧∃(zs':List Str) (x10 x11:Option V),σ'= [some (.ref a),some (.int (kk:Int)),some (.ref l),some (.ref S),some (.ref O),some (.int wy),some (.int (ai:Int)),some (.str tx),some (.int (pl:Int)),some (.str sg_),x10,x11]∧H' S=some (.lst (zs'.map V.str))∧((zs'=zs∧2≤wy)∨(wy < 2∧Gl_ (n+1) (m+6) zs'))) ?_ fun nx hnx=> ?_
 rotate_left
 · refine ⟨_,rfl,rfl,_,rfl,?_⟩
   by_cases e:wy=1
   · refine if_t (decide_eq_true (by rw [e])) ?_
     rcases hz' with ⟨rfl,_⟩|⟨hlt,_⟩
     · have hA:=SqL.same sH hA0
       refine ⟨_,rfl, .inl ⟨rfl,_,SqL.of hS'⟩,_,rfl,_,rfl,_,_,rfl,rfl,_,rfl,S,_,rfl, .inl (SqL.of hS'),_,_,rfl,rfl,a,ns,_,_,rfl,hA,h63,by omega,by omega,by rw [uT];omega,fun i i0 i1=> ?_⟩
       rw [uT] at i1
       refine ⟨_,rfl,S,_,_,_,i.toNat,rfl,rfl,by omega,hS',by rw [uT];omega,by rw [uT];omega,?_⟩
       rw [ku]
       exact hnx _ _ ⟨b8 nS sH,_,_,_,rfl,aa, .inr ⟨by omega,hG.ins _ (by omega) (by omega)⟩⟩
     · omega
   · refine if_f (decide_eq_false fun q=>e (V.int.inj q)) (hnx _ _ ⟨sH,zs',x10,x11,rfl,hS',?_⟩)
     rcases hz' with ⟨q1,q2⟩|⟨q1,q2⟩
     · exact .inl ⟨q1,by omega⟩
     · exact .inr ⟨by omega,q2⟩
 clear hS' hz' sH
 rintro _ H6 ⟨sH,zs',x10,x11,rfl,hS',hz'⟩
 refine az (fun σ' H'=>Same H H'∧∃(zs':List Str) (x10 x11:Option V),σ'= [some (.ref a),some (.int (kk:Int)),some (.ref l),some (.ref S),some (.ref O),some (.int wy),some (.int (ai:Int)),some (.str tx),some (.int (pl:Int)),some (.str sg_),x10,x11]∧H' S=some (.lst (zs'.map V.str))∧((zs'=zs∧3≤wy)∨(wy < 3∧Gl_ (n+1) (m+6) zs'))) ?_ fun nx hnx=> ?_
 rotate_left
 · refine ⟨_,rfl,rfl,_,rfl,?_⟩
   by_cases e:wy=2
   · refine if_t (decide_eq_true (by rw [e])) ?_
     rcases hz' with ⟨rfl,_⟩|⟨hlt,_⟩
     · have hA:=SqL.same sH hA0
       refine ⟨_,rfl, .inl ⟨rfl,_,SqL.of hS'⟩,_,rfl,S,_,_,ai, .str tx,rfl,rfl,hS',by omega,by omega,(ii (by rw [uT];exact aix)).1,by rw [vn,ex];rfl,?_⟩
       refine hnx _ _ ⟨b8 nS sH,zs'.eraseIdx ai,_,_,rfl,?_, .inr ⟨by omega,⟨?_,fun z mz=> ?_⟩⟩⟩
       · rw [←gq]
         exact aa
       · have:=List.length_eraseIdx_le zs' ai
         omega
       · have:=hG.m z (List.mem_of_mem_eraseIdx mz)
         omega
     · omega
   · refine if_f (decide_eq_false fun q=>e (V.int.inj q)) (hnx _ _ ⟨sH,zs',x10,x11,rfl,hS',?_⟩)
     rcases hz' with ⟨q1,q2⟩|⟨q1,q2⟩
     · exact .inl ⟨q1,by omega⟩
     · exact .inr ⟨by omega,q2⟩
 clear hS' hz' sH
 rintro _ H6 ⟨sH,zs',x10,x11,rfl,hS',hz'⟩
 refine az (fun σ' H'=>Same H H'∧∃(zs':List Str) (x10 x11:Option V),σ'= [some (.ref a),some (.int (kk:Int)),some (.ref l),some (.ref S),some (.ref O),some (.int wy),some (.int (ai:Int)),some (.str tx),some (.int (pl:Int)),some (.str sg_),x10,x11]∧H' S=some (.lst (zs'.map V.str))∧((zs'=zs∧4≤wy)∨(wy < 4∧Gl_ (n+1) (m+6) zs'))) ?_ fun nx hnx=> ?_
 rotate_left
 · refine ⟨_,rfl,rfl,_,rfl,?_⟩
   by_cases e:wy=3
   · refine if_t (decide_eq_true (by rw [e])) ?_
     rcases hz' with ⟨rfl,_⟩|⟨hlt,_⟩
     · have hA:=SqL.same sH hA0
       have f0:=fo tx pl
       refine ⟨_,rfl,_,rfl,_,rfl,tx,rfl,by omega,_,rfl,_,_,rfl,rfl,by rw [cK (by omega)];omega,_,rfl,_,rfl,_,rfl,tx,rfl,by omega,_,_,rfl,rfl,by rw [aU,cK (by omega)];omega,?_⟩
       refine ⟨_,rfl,_,rfl,S,_,_,ai,rfl,rfl,hS',by rw [uT];exact aix,?_⟩
       rw [←List.map_set]
       exact hnx _ _ ⟨b8 nS sH,_,_,_,rfl,aa, .inr ⟨by omega,hG.set (by rw [aU,aU,cK (by omega)];omega) (by omega)⟩⟩
     · omega
   · refine if_f (decide_eq_false fun q=>e (V.int.inj q)) (hnx _ _ ⟨sH,zs',x10,x11,rfl,hS',?_⟩)
     rcases hz' with ⟨q1,q2⟩|⟨q1,q2⟩
     · exact .inl ⟨q1,by omega⟩
     · exact .inr ⟨by omega,q2⟩
 clear hS' hz' sH
 rintro _ H6 ⟨sH,zs',x10,x11,rfl,hS',hz'⟩
 refine az (fun σ' H'=>Same H H'∧∃(zs':List Str) (x10 x11:Option V),σ'= [some (.ref a),some (.int (kk:Int)),some (.ref l),some (.ref S),some (.ref O),some (.int wy),some (.int (ai:Int)),some (.str tx),some (.int (pl:Int)),some (.str sg_),x10,x11]∧H' S=some (.lst (zs'.map V.str))∧((zs'=zs∧5≤wy)∨(wy < 5∧Gl_ (n+1) (m+6) zs'))) ?_ fun nx hnx=> ?_
 rotate_left
 · refine ⟨_,rfl,rfl,_,rfl,?_⟩
   by_cases e:wy=4
   · refine if_t (decide_eq_true (by rw [e])) ?_
     rcases hz' with ⟨rfl,_⟩|⟨hlt,_⟩
     · have hA:=SqL.same sH hA0
       have f0:=fo tx (pl+1)
       refine ⟨_,rfl,_,rfl,_,rfl,tx,rfl,by omega,_,rfl,_,rfl,_,_,rfl,rfl,((pl+1:Nat):Int),rfl,tx,rfl,by omega,_,_,rfl,rfl,by rw [cK (by omega)];omega,?_⟩
       refine ⟨_,rfl,_,rfl,S,_,_,ai,rfl,rfl,hS',by rw [uT];exact aix,?_⟩
       rw [←List.map_set]
       exact hnx _ _ ⟨b8 nS sH,_,_,_,rfl,aa, .inr ⟨by omega,hG.set (by rw [aU,cK (by omega)];omega) (by omega)⟩⟩
     · omega
   · refine if_f (decide_eq_false fun q=>e (V.int.inj q)) (hnx _ _ ⟨sH,zs',x10,x11,rfl,hS',?_⟩)
     rcases hz' with ⟨q1,q2⟩|⟨q1,q2⟩
     · exact .inl ⟨q1,by omega⟩
     · exact .inr ⟨by omega,q2⟩
 clear hS' hz' sH
 rintro _ H6 ⟨sH,zs',x10,x11,rfl,hS',hz'⟩
 refine az (fun σ' H'=>Same H H'∧∃(zs':List Str) (x10 x11:Option V),σ'= [some (.ref a),some (.int (kk:Int)),some (.ref l),some (.ref S),some (.ref O),some (.int wy),some (.int (ai:Int)),some (.str tx),some (.int (pl:Int)),some (.str sg_),x10,x11]∧H' S=some (.lst (zs'.map V.str))∧((zs'=zs∧6≤wy)∨(wy < 6∧Gl_ (n+1) (m+6) zs'))) ?_ fun nx hnx=> ?_
 rotate_left
 · refine ⟨_,rfl,rfl,_,rfl,?_⟩
   by_cases e:wy=5
   · refine if_t (decide_eq_true (by rw [e])) ?_
     rcases hz' with ⟨rfl,_⟩|⟨hlt,_⟩
     · have hA:=SqL.same sH hA0
       have f0:=fo tx (pl+1)
       refine ⟨_,rfl,_,rfl,_,rfl,tx,rfl,by omega,_,rfl,_,_,rfl,rfl,by rw [cK (by omega)];omega,_,rfl,_,rfl,_,_,rfl,rfl,((pl+1:Nat):Int),rfl,tx,rfl,by omega,_,_,rfl,rfl,by rw [aU,cK (by omega)];omega,?_⟩
       refine ⟨_,rfl,_,rfl,S,_,_,ai,rfl,rfl,hS',by rw [uT];exact aix,?_⟩
       rw [←List.map_set]
       exact hnx _ _ ⟨b8 nS sH,_,_,_,rfl,aa, .inr ⟨by omega,hG.set (by rw [aU,aU,cK (by omega)];omega) (by omega)⟩⟩
     · omega
   · refine if_f (decide_eq_false fun q=>e (V.int.inj q)) (hnx _ _ ⟨sH,zs',x10,x11,rfl,hS',?_⟩)
     rcases hz' with ⟨q1,q2⟩|⟨q1,q2⟩
     · exact .inl ⟨q1,by omega⟩
     · exact .inr ⟨by omega,q2⟩
 clear hS' hz' sH
 rintro _ H6 ⟨sH,zs',x10,x11,rfl,hS',hz'⟩
 refine az (fun σ' H'=>Same H H'∧∃(zs':List Str) (x10 x11:Option V),σ'= [some (.ref a),some (.int (kk:Int)),some (.ref l),some (.ref S),some (.ref O),some (.int wy),some (.int (ai:Int)),some (.str tx),some (.int (pl:Int)),some (.str sg_),x10,x11]∧H' S=some (.lst (zs'.map V.str))∧((zs'=zs∧7≤wy)∨(wy < 7∧Gl_ (n+1) (m+6) zs'))) ?_ fun nx hnx=> ?_
 rotate_left
 · refine ⟨_,rfl,rfl,_,rfl,?_⟩
   by_cases e:wy=6
   · refine if_t (decide_eq_true (by rw [e])) ?_
     rcases hz' with ⟨rfl,_⟩|⟨hlt,_⟩
     · have hA:=SqL.same sH hA0
       have wf:=eO (z:=tx) (by omega)
       have es:=eW tx
       refine az (fun σ' H7=>Same H6 H7∧∃(W:Addr) (ws:List Str),σ'= [some (.ref a),some (.int (kk:Int)),some (.ref l),some (.ref S),some (.ref O),some (.int wy),some (.int (ai:Int)),some (.str tx),some (.int (pl:Int)),some (.str sg_),some (.ref W),x11]∧H6 W=none∧H7 W=some (.lst (ws.map V.str))∧ws≠ []∧ws.length≤300∧wl ws≤tx.length+2) ?_ fun ny hny=> ?_
       rotate_left
       · refine ⟨_,rfl,rfl,tx,_,rfl,rfl,by decide +kernel,by omega,by rw [es];omega,fun p1 n1=> ?_⟩
         rw [es]
         have q1:=ae (o:= .lst ((wdF tx).map V.str)) n1
         have h1:(upd H6 p1 (.lst ((wdF tx).map V.str))) p1=some (.lst ((wdF tx).map V.str)):=aa
         generalize upd H6 p1 (.lst ((wdF tx).map V.str))=G1 at q1 h1
         refine ⟨by show 1≤sizeLine;decide,fun p2 n2=> ?_⟩
         have q2:=ae (o:= .lst [V.str (Str.ofString "")]) n2
         have h2:(upd G1 p2 (.lst [V.str (Str.ofString "")])) p2=some (.lst [V.str (Str.ofString "")]):=aa
         have h12:=q2 _ _ h1
         generalize upd G1 p2 (.lst [V.str (Str.ofString "")])=G2 at q2 h2 h12
         refine ⟨_,rfl,_,rfl,_,_,rfl,rfl,a,ns,_,2,rfl,SqL.same (q1.trans q2) hA,h63,by omega,by omega,by decide,fun d d0 d2=> ?_⟩
         refine ⟨p2,d,_,rfl,rfl,h2,by omega,by omega,?_,fun p3 n3=> ?_⟩
         · have:d.toNat≤1:=by omega
           show 1*d.toNat≤sizeLine
           omega
         rw [qb]
         have q3:=ae (o:= .lst ((List.replicate d.toNat (Str.ofString "")).map V.str)) n3
         refine ⟨p1,p3,_,_,rfl,rfl,q3 _ _ h12,aa,by rw [uT,uT,vW];omega,fun W nW=> ?_⟩
         rw [←vp]
         have q4:=ae (o:= .lst ((wdF tx++List.replicate d.toNat (Str.ofString "")).map V.str)) nW
         have nW6:H6 W=none:=by
          cases e6:H6 W with
          |none=>rfl
          |some o=>rw [(q1.trans (q2.trans q3)) _ _ e6] at nW;cases nW
         refine hny _ _ ⟨q1.trans (q2.trans (q3.trans q4)),W,wdF tx++List.replicate d.toNat (Str.ofString ""),rfl,nW6,aa,fun q=>u7 tx (List.append_eq_nil_iff.mp q).1,by rw [vc,vW];omega,?_⟩
         rw [sj,u6]
         have e1:wl (List.replicate d.toNat (Str.ofString ""))=d.toNat:=by
          rw [jh,List.map_replicate,show (Str.ofString "").length=0 by decide +kernel,vW]
          simp
         rw [e1]
         omega
       rintro _ H7 ⟨q7,W,ws,rfl,nW,hW7,wsn,wsl,wlw⟩
       refine az (fun σ' H8=>Same H7 H8∧∃G:Addr,σ'= [some (.ref a),some (.int (kk:Int)),some (.ref l),some (.ref S),some (.ref O),some (.int wy),some (.int (ai:Int)),some (.str tx),some (.int (pl:Int)),some (.str sg_),some (.ref W),some (.ref G)]∧H8 G=some (.lst (strT.map V.str))) ?_ fun ny hny=> ?_
       rotate_left
       · exact ⟨by show 10≤sizeLine;decide,fun G nG=>hny _ _ ⟨ae nG,G,rfl,aa⟩⟩
       rintro _ H8 ⟨q8,G,rfl,hG8⟩
       have q68:=q7.trans q8
       have hA8:=SqL.same q68 hA
       have hW8:=q8 _ _ hW7
       have hS8:=q68 _ _ hS'
       refine ⟨_,rfl,_,rfl,_,rfl,_,_,rfl,rfl,a,ns,_,10,rfl,hA8,h63,by omega,by omega,by decide,fun t t0 t10=> ?_⟩
       obtain ⟨z,mz,ez⟩:=cZ (xs:=strT) t0 (by show t < 10;exact t10)
       have lz:=pX mz
       have wp:0 < ws.length:=List.length_pos_iff.mpr wsn
       refine ⟨G,_,t,_,rfl,rfl,SqL.of hG8,ez,_,rfl,_,rfl,_,rfl,_,_,rfl,rfl,_,rfl,W,_,rfl, .inl (SqL.of hW8),a,ns,_,_,rfl,hA8,h63,by omega,by omega,by rw [uT];omega,fun u u0 u1=> ?_⟩
       rw [uT] at u1
       obtain ⟨uj,rfl,ujl,ujx⟩:=iU u0 u1
       refine ⟨W,_,_,uj,rfl,rfl,hW8,by rw [uT];exact ujx,?_⟩
       rw [←List.map_set]
       have nWS:S≠W:=aI hS' nW
       have wl2:=mO ws uj z
       have gl:=mm (ws.set uj z) (fun q=>wsn (by have:=congrArg List.length q;rw [List.length_set] at this;exact List.length_eq_zero_iff.mp this))
       refine ⟨rfl,_,rfl,Str.ofString " ",W,ws.set uj z,rfl,rfl,SqL.of aa,?_,?_⟩
       · have e1:=jh (ws.set uj z)
         rw [show (Str.ofString " ").length=1 by decide +kernel,Nat.mul_one]
         omega
       refine ⟨_,rfl,_,rfl,S,_,_,ai,rfl,rfl,(aj nWS).trans hS8,by rw [uT];exact aix,?_⟩
       rw [←List.map_set]
       have sW:Same H6 (upd H8 W (.lst ((ws.set uj z).map V.str))):=b8 nW q68
       exact hnx _ _ ⟨b8 nS (sH.trans sW),_,_,_,rfl,aa, .inr ⟨by omega,hG.set (by omega) (by omega)⟩⟩
     · omega
   · refine if_f (decide_eq_false fun q=>e (V.int.inj q)) (hnx _ _ ⟨sH,zs',x10,x11,rfl,hS',?_⟩)
     rcases hz' with ⟨q1,q2⟩|⟨q1,q2⟩
     · exact .inl ⟨q1,by omega⟩
     · exact .inr ⟨by omega,q2⟩
 clear hS' hz' sH
 rintro _ H6 ⟨sH,zs',x10,x11,rfl,hS',hz'⟩
 refine ⟨_,rfl,?_⟩
 rcases hz' with ⟨_,q⟩|⟨_,q⟩
 · omega
 · exact fin zs' H6 sH hS' q
end
end K85
namespace L2
open PySem Tre
noncomputable def cG (f:Expr→Option Tr):List Expr→Option (List Tr)
 | []=>some []
 |e::es=>match f e,cG f es with
  |some t,some ts=>some (t::ts)
  |_,_=>none
noncomputable def litE:Nat→Expr→Option Tr
 |0,_=>none
 |n+1,e=>match e with
  | .Constant (.str x) _ _=>some (.str x)
  | .Constant (.int i) _ _=>some (.int i)
  | .UnaryOp .USub (.Constant (.int i) _ _) _=>some (.int (-i))
  | .Tuple es _ _=>if es.length≤100 then (cG (litE n) es).map .tup else none
  |_=>none
noncomputable def litL (n:Nat):Expr→Option (List Tr)
 | .List es _=>if es.length≤100 then cG (litE n) es else none
 |_=>none
def tLit (t:Tr):TE:=fun _ H Q=>∀v H',Same H H'→TrAt H' v t→Q v H'
def rF (ts:List Tr):TA:=fun _ H Q=>∀vs H',Same H H'→TrsAt H' vs ts→Q vs H'
def uc (ts:List Tr):TE:=fun _ H Q=>∀r vs H',Same H H'→H r=none→H' r=some (.lst vs)→TrsAt H' vs ts→Q (.ref r) H'
section
variable {X:Cx}
theorem PE.imp {e:Expr} {t u:TE} (h:PE X e t) (k:∀σ H Q,u σ H Q→t σ H Q):PE X e u:=fun pins s σ H Q I q=>h pins s σ H Q I (k σ H Q q)
theorem PA.imp {es:List Expr} {t u:TA} (h:PA X es t) (k:∀σ H Q,u σ H Q→t σ H Q):PA X es u:=fun pos pins s σ H Q I q=>h pos pins s σ H Q I (k σ H Q q)
theorem i3 {H:Hp} {p:Addr} {o:HO} (h:H p=none):Same H (upd H p o):=fun b u e=>by
 rw [aj (aI e h)]
 exact e
theorem Same.none {H H':Hp} {p:Addr} (s:Same H H') (h:H' p=none):H p=none:=by
 cases e:H p with
 |none=>rfl
 |some o=>rw [s p o e] at h;cases h
theorem fh:∀ {n:Nat} {es:List Expr} {ts:List Tr},cG (litE n) es=some ts→ts.length=es.length
 |n,[],ts,h=>by
  rw [cG] at h
  cases h
  rfl
 |n,e::es,ts,h=>by
  rw [cG] at h
  split at h
  · rename_i t us h1 h2
    cases h
    rw [uU,uU,fh h2]
  · cases h
theorem qp:∀n,∀e t,litE n e=some t→PE X e (tLit t)∧∀es,starEach (e::es) X.env=(false,eval e X.env)::starEach es X.env:=by
 intro n
 induction n with
 |zero=>
  intro e t h
  rw [litE] at h
  cases h
 |succ n ih=>
  have many:∀es ts,cG (litE n) es=some ts→PA X es (rF ts):=by
   intro es
   induction es with
   |nil=>
    intro ts h
    rw [cG] at h
    cases h
    exact PA.imp a8 fun σ H Q q=>q [] H (Same.refl H) .nil
   |cons e es ih2=>
    intro ts h
    rw [cG] at h
    split at h
    · rename_i t us h1 h2
      cases h
      obtain ⟨a1,a2⟩:=ih e t h1
      refine PA.imp (a7 a1 (ih2 us h2) (a2 es)) fun σ H Q q=> ?_
      intro v H1 s1 hv ws H2 s2 hw
      exact q (v::ws) H2 (s1.trans s2) (.cons (hv.mono (Kd.of_same s2)) hw)
    · cases h
  intro e t h
  unfold litE at h
  split at h
  · cases h
    exact ⟨PE.imp ad fun σ H Q q=>q _ H (Same.refl H) cD,fun es=>rfl⟩
  · cases h
    exact ⟨PE.imp ac fun σ H Q q=>q _ H (Same.refl H) (by unfold TrAt;rfl),fun es=>rfl⟩
  · cases h
    exact ⟨PE.imp (dm cv ac) fun σ H Q q=>⟨_,rfl,q _ H (Same.refl H) (by unfold TrAt;rfl)⟩,fun es=>rfl⟩
  · rename_i es k pos
    split at h
    · rename_i hl
      obtain ⟨ts,h1,h2⟩:=vK.mp h
      cases h2
      refine ⟨PE.imp (bu (many es ts h1)) fun σ H Q q=> ?_,fun es=>rfl⟩
      intro vs H1 s1 hv
      have l1:=hv.len
      have l2:=fh h1
      refine ⟨by have:(100:Nat)≤sizeLine:=by decide +kernel
                 omega,fun p np=> ?_⟩
      have s2:=i3 (o:= .tup vs) np
      exact q (.ref p) _ (s1.trans s2) (bv aa (hv.mono (Kd.of_same s2)))
    · cases h
  · cases h
theorem kg (n:Nat):∀ {es:List Expr} {ts:List Tr},cG (litE n) es=some ts→PA X es (rF ts)
 | [],ts,h=>by
  rw [cG] at h
  cases h
  exact PA.imp a8 fun σ H Q q=>q [] H (Same.refl H) .nil
 |e::es,ts,h=>by
  rw [cG] at h
  split at h
  · rename_i t us h1 h2
    cases h
    obtain ⟨a1,a2⟩:=qp (X:=X) n e t h1
    refine PA.imp (a7 a1 (kg n h2) (a2 es)) fun σ H Q q=> ?_
    intro v H1 s1 hv ws H2 s2 hw
    exact q (v::ws) H2 (s1.trans s2) (.cons (hv.mono (Kd.of_same s2)) hw)
  · cases h
theorem qo (n:Nat) {e:Expr} {ts:List Tr} (h:litL n e=some ts):PE X e (uc ts):=by
 unfold litL at h
 split at h
 · rename_i es pos
   split at h
   · rename_i hl
     refine PE.imp (bj (kg n h)) fun σ H Q q=> ?_
     intro vs H1 s1 hv
     have l1:=hv.len
     have l2:=fh h
     refine ⟨by have:(100:Nat)≤sizeLine:=by decide +kernel
                omega,fun p np=> ?_⟩
     have s2:=i3 (o:= .lst vs) np
     exact q p vs _ (s1.trans s2) (s1.none np) aa (hv.mono (Kd.of_same s2))
   · cases h
 · cases h
end
open PySem Tre
noncomputable def d5 (n:Nat):List Expr→Option (List (List Tr))
 | []=>some []
 |e::es=>match litL n e,d5 n es with
  |some t,some ts=>some (t::ts)
  |_,_=>none
noncomputable def gt (n:Nat):Expr→Option (List (List Tr))
 | .List es _=>if es.length≤100 then d5 n es else none
 |_=>none
inductive LsAt (H:Hp):List V→List (List Tr)→Prop
 |nil:LsAt H [] []
 |cons {q:Addr} {vs qs:List V} {row:List Tr} {rows:List (List Tr)}:H q=some (.lst vs)→TrsAt H vs row→LsAt H qs rows→LsAt H (.ref q::qs) (row::rows)
theorem LsAt.same {H H':Hp} (s:Same H H') {qs:List V} {rows:List (List Tr)} (h:LsAt H qs rows):LsAt H' qs rows:=by
 induction h with
 |nil=>exact .nil
 |cons a b _ ih=>exact .cons (s _ _ a) (b.mono (Kd.of_same s)) ih
theorem LsAt.len {H:Hp} {qs:List V} {rows:List (List Tr)} (h:LsAt H qs rows):qs.length=rows.length:=by
 induction h with
 |nil=>rfl
 |cons _ _ _ ih=>rw [uU,uU,ih]
theorem LsAt.get {H:Hp} {qs:List V} {rows:List (List Tr)} (h:LsAt H qs rows):∀ {i:Nat} {row:List Tr},rows[i]?=some row→∃q vs,qs[i]?=some (.ref q)∧H q=some (.lst vs)∧TrsAt H vs row:=by
 induction h with
 |nil=>intro i row e;cases e
 |cons a b _ ih=>
  intro i row e
  cases i with
  |zero=>
   cases e
   exact ⟨_,_,rfl,a,b⟩
  |succ i=>exact ih e
def sv (rows:List (List Tr)):TA:=fun _ H Q=>∀qs H',Same H H'→LsAt H' qs rows→Q qs H'
def sw (rows:List (List Tr)):TE:=fun _ H Q=>∀r qs H',Same H H'→H r=none→H' r=some (.lst qs)→LsAt H' qs rows→Q (.ref r) H'
section
variable {X:Cx}
theorem lS {n:Nat} {e:Expr} {ts:List Tr} (h:litL n e=some ts) (es:List Expr):starEach (e::es) X.env=(false,eval e X.env)::starEach es X.env:=by
 unfold litL at h
 split at h
 · rfl
 · cases h
theorem gs (n:Nat):∀ {es:List Expr} {ts:List (List Tr)},d5 n es=some ts→ts.length=es.length
 | [],ts,h=>by
  rw [d5] at h
  cases h
  rfl
 |e::es,ts,h=>by
  rw [d5] at h
  split at h
  · rename_i t us h1 h2
    cases h
    rw [uU,uU,gs n h2]
  · cases h
theorem iJ (n:Nat):∀ {es:List Expr} {rows:List (List Tr)},d5 n es=some rows→PA X es (sv rows)
 | [],rows,h=>by
  rw [d5] at h
  cases h
  exact PA.imp a8 fun σ H Q q=>q [] H (Same.refl H) .nil
 |e::es,rows,h=>by
  rw [d5] at h
  split at h
  · rename_i t us h1 h2
    cases h
    refine PA.imp (a7 (qo n h1) (iJ n h2) (lS h1 es)) fun σ H Q q=> ?_
    intro r vs H1 s1 nr hr hv ws H2 s2 hw
    exact q (.ref r::ws) H2 (s1.trans s2) (.cons (s2 _ _ hr) (hv.mono (Kd.of_same s2)) hw)
  · cases h
theorem dq (n:Nat) {e:Expr} {rows:List (List Tr)} (h:gt n e=some rows):PE X e (sw rows):=by
 unfold gt at h
 split at h
 · rename_i es pos
   split at h
   · rename_i hl
     refine PE.imp (bj (iJ n h)) fun σ H Q q=> ?_
     intro vs H1 s1 hv
     have l1:=hv.len
     have l2:=gs n h
     refine ⟨by have:(100:Nat)≤sizeLine:=by decide +kernel
                omega,fun p np=> ?_⟩
     have s2:=i3 (o:= .lst vs) np
     exact q p vs _ (s1.trans s2) (s1.none np) aa (hv.same s2)
   · cases h
 · cases h
end
end L2
namespace L2
open PySem PySem.Spec PyProof.Rows
section
variable {X:Cx}
end
end L2
namespace Tre
open PySem PySem.Spec PyProof.Rows L2
section
variable {X:Cx}
def rEqL (b:Bool):R2:=fun x y H Q=>∃l m vs ws ts us,x= .ref l∧y= .ref m∧H l=some (.lst vs)∧H m=some (.lst ws)∧TrsAt H vs ts∧TrsAt H ws us∧(Trs.pure ts∨Trs.pure us)∧Trs.depth ts≤40∧Q (.bl (eqTs ts us==b)) H
theorem pf {ts us:List Tr} (h:ts.length≠us.length):eqTs ts us=false:=by
 rw [dH,Bool.and_eq_false_iff]
 right
 simp [h]
theorem oP {A:Around} {pins:List (Addr×Obj)} {σ:L2.St} {H:Hp} {s:Shared} {l m:Addr} {vs ws:List V} {ts us:List Tr} (hu:A.units+50 < cLine) (I:Inv X pins σ H s) (h1:H l=some (.lst vs)) (h2:H m=some (.lst ws)) (k1:TrsAt H vs ts) (k2:TrsAt H ws us) (hp:Trs.pure ts∨Trs.pure us) (hd:Trs.depth ts≤40):
 SeqAt.RcAt A s (.ref l) (.ref m) (eqTs ts us)∧SeqAt.RcNeAt A s (.ref l) (.ref m) (!eqTs ts us):=by
 obtain ⟨as,r1,p1,_⟩:=I.list (SqL.of h1)
 obtain ⟨bs,r2,p2,_⟩:=I.list (SqL.of h2)
 have l1:=k1.len
 have l2:=k2.len
 have l3:=r1.length
 have l4:=r2.length
 by_cases z:ts.length=us.length
 · have hsz:as.toArray.size=bs.toArray.size:=by rw [uY,uY];omega
   have he:=fun j (g1:j < as.toArray.size) (g2:j < bs.toArray.size)=>oX (A:=A.in1) I (by show A.units+1+42 < cLine;omega) k1 k2 hp hd r1 r2 j g1 g2
   have a1:=SeqAt.RcAt.lists (A:=A) (e:=eqJ ts us) p1.isList p2.isList hsz (by omega) he
   have a2:=SeqAt.RcNeAt.lists (A:=A) (e:=eqJ ts us) p1.isList p2.isList hsz (by omega) he
   have e:(List.range as.toArray.size).all (eqJ ts us)=eqTs ts us:=by
    rw [dH,←z,Nat.min_self]
    have:as.toArray.size=ts.length:=by rw [uY];omega
    rw [this]
    simp
   rw [e] at a1 a2
   exact ⟨a1,a2⟩
 · have hsz:(as.toArray.size !=bs.toArray.size)=true:=by
    rw [uY,uY]
    simp only [bne_iff_ne,ne_eq]
    omega
   rw [pf z]
   exact ⟨SeqAt.RcAt.lists_lengths p1.isList p2.isList hsz (by omega),SeqAt.RcNeAt.lists_lengths p1.isList p2.isList hsz (by omega)⟩
theorem sU (hu:X.A.units+60 < cLine):OpR X (compareOp .NotEq) (rEqL false):=by
 intro pins s σ H x y v u Q I rx ry h
 obtain ⟨l,m,vs,ws,ts,us,rfl,rfl,h1,h2,k1,k2,hp,hd,q⟩:=h
 cases rx
 cases ry
 rw [pK] at q
 exact (oP (A:=X.A) (by omega) I h1 h2 k1 k2 hp hd).2 X.prog X.w X.xe _ ⟨.bl (!eqTs ts us),H,I,rfl,q⟩
end
open PySem PySem.Spec PyProof.Rows L2
section
variable {X:Cx}
end
end Tre
namespace K85
open PySem PySem.NumText L2 Mth Dec Tre Wd Spl Dj
def Ans (P:Program) (w:World) (K:PySem.W.Frag) (H:Hp) (v:V) (zs:List Str):Prop:=(∃n,wkF 0 [] zs= .inl n∧v= .str (txN n))∨∃es r F D C,wkF 0 [] zs= .inr es∧v= .ref r∧H r=some (.tup [.ref F, .ref D, .ref C])∧WE P w K H F D C es
section
variable {P:Program} {w:World} {K:PySem.W.Frag} {mg:Str→Option Value} {base:Heap} {H H':Hp} {v u:V} {zs:List Str}
theorem Ans.same (h:Ans P w K H v zs) (s:Same H H'):Ans P w K H' v zs:=by
 rcases h with h|⟨es,r,F,D,C,a,b,c,d⟩
 · exact .inl h
 · exact .inr ⟨es,r,F,D,C,a,b,s _ _ c,d.same s⟩
theorem u4 (a:Ans P w K H v zs) (b:Ans P w K H u zs) {Q:VK} (q:Q (.bl true) H):rEqW P w K v u H Q:=by
 rcases a with ⟨n,a1,rfl⟩|⟨es,r,F,D,C,a1,rfl,a2,a3⟩
 · rcases b with ⟨m,b1,rfl⟩|⟨es,r,F,D,C,b1,rfl,b2,b3⟩
   · rw [a1] at b1
     cases b1
     exact .inl ⟨_,rfl,rfl,q⟩
   · rw [a1] at b1
     cases b1
 · rcases b with ⟨m,b1,rfl⟩|⟨es',r',F',D',C',b1,rfl,b2,b3⟩
   · rw [a1] at b1
     cases b1
   · rw [a1] at b1
     cases b1
     exact .inr ⟨_,_,rfl,rfl,rC a2 b2 a3 b3,q⟩
theorem jO (a:Ans P w K H v zs) (b:Ans P w K H u zs) {Q:VK} (q:Q (.bl false) H):rNeW P w K v u H Q:=by
 rcases a with ⟨n,a1,rfl⟩|⟨es,r,F,D,C,a1,rfl,a2,a3⟩
 · rcases b with ⟨m,b1,rfl⟩|⟨es,r,F,D,C,b1,rfl,b2,b3⟩
   · rw [a1] at b1
     cases b1
     exact .inl ⟨_,rfl,rfl,q⟩
   · rw [a1] at b1
     cases b1
 · rcases b with ⟨m,b1,rfl⟩|⟨es',r',F',D',C',b1,rfl,b2,b3⟩
   · rw [a1] at b1
     cases b1
   · rw [a1] at b1
     cases b1
     exact .inr ⟨_,_,rfl,rfl,rC a2 b2 a3 b3,q⟩
theorem tV {l:Addr} {Q:VK} {E:XK} (hl:H l=some (.lst (zs.map V.str))) (hL:Ls zs) (k:∀v H',Same H H'→Ans P w K H' v zs→Q v H'):eX P w K [.ref l] H Q E:=
 ⟨l,zs,rfl,hl,hL,fun n e H' s=>k _ H' s (.inl ⟨n,e,rfl⟩),fun es e r F D C H' s a b=>k _ H' s (.inr ⟨es,r,F,D,C,e,rfl,a,b⟩)⟩
def spAn (P:Program) (w:World) (K:PySem.W.Frag):Sp:=fun vs H Q _=>∃(l:Addr) (zs:List Str),vs= [.ref l]∧H l=some (.lst (zs.map V.str))∧Ls zs∧∀v H',Same H H'→Ans P w K H' v zs→Q v H'
theorem rV {CX:CXT} {kk:Nat} {f:Addr} {fd:FuncData} (g:FnOk P w K mg base CX kk f fd ["_law_lines"] (eX P w K)):FnOk P w K mg base CX kk f fd ["_law_lines"] (spAn P w K):=by
 have imp:∀vs H Q E,spAn P w K vs H Q E→eX P w K vs H Q E:=fun vs H Q E ⟨l,zs,e,hl,hL,k⟩=>by
  subst e
  exact tV hl hL k
 exact ⟨fun vs H Q E h=>g.len _ _ _ _ (imp _ _ _ _ h),fun A outer s H args us vs Q E hr e0 hb r h=>g.run A outer s H args us vs Q E hr e0 hb r (imp _ _ _ _ h)⟩
theorem Gl_.ls {n m:Nat} {zs:List Str} (h:Gl_ n m zs) (hn:n≤40) (hm:m≤200):Ls zs:=⟨vh h.n hn,fun z mz=>vh (h.m z mz) hm⟩
theorem tG (K:PySem.W.Frag):PySem.W.kitOne K (.type "tuple") (.type "tuple")=some true:=by kernel_rfl
theorem hJ {H:Hp}:∀ {zs:List Str},TrsAt H (zs.map V.str) (zs.map Tr.str)
 | []=> .nil
 |z::zs=> .cons cD hJ
theorem jV {H:Hp}:∀ {zs:List Str} {vs:List V},TrsAt H vs (zs.map Tr.str)→vs=zs.map V.str
 | [],vs,h=>by unfold TrsAt at h;exact h
 |z::zs,vs,h=>by
  obtain ⟨v,r,rfl,h1,h2⟩:=h.inv
  rw [eV h1,jV h2]
  rfl
theorem g8:∀zs:List Str,Trs.pure (zs.map Tr.str)
 | []=>trivial
 |z::zs=>⟨trivial,g8 zs⟩
theorem iB:∀zs:List Str,Trs.depth (zs.map Tr.str)≤40
 | []=>by simp [Trs.depth]
 |z::zs=>by
  have:=iB zs
  simp only [uZ,Trs.depth,Tr.depth]
  omega
theorem LsAt.app {H:Hp} {qs rs:List V} {as bs:List (List Tr)} (b:LsAt H rs bs) (a:LsAt H qs as):LsAt H (qs++rs) (as++bs):=by
 induction a with
 |nil=>exact b
 |cons h1 h2 _ ih=>exact .cons h1 h2 ih
theorem LsAt.app2 {H:Hp} {qs rs:List V} {as bs:List (List Tr)} (a:LsAt H qs as) (b:LsAt H rs bs):LsAt H (qs++rs) (as++bs):=LsAt.app b a
theorem nZ {r:R2} {b:V} {mp:List (Option Nat)} {wi:TI} {te:TE} {Z:Ends} {σ rest:L2.St} {H:Hp} (e:subS mp σ=none::rest) (h:wi σ H fun J H1=>∀D,H1 D=none→jg J D te rest (fun y H2=>r b y H2 Z.rt) H1):
 tRet (tOp r (tC b) (di mp wi (bB 0) dh te)) Z σ H:=iz e h
def S_ (x:String):Str:=Str.ofString x
noncomputable def mrA:List (List Str):= [[S_ "call f 1 1 1 1 = 1"],[S_ "call f 1 1 1 = 1"],[S_ "call f = 1"],[S_ "call f 1 1"],[S_ "call f 1 = 1 = 1"]]
noncomputable def mrB:List (List Str):= [[S_ "flag p",S_ "flag p"],[S_ "flag p 1"],[S_ "name a 1",S_ "name a 1"],[S_ "name a = 1"]]
def mrC:List (List Str):= [[S_ "name a 0",S_ "name b 1"]]
noncomputable def mrD:List (List Str):= [[S_ "call f 1 = 2",S_ "call f 1 2 = 2",S_ "call f 1 = 0"],[S_ "flag p",S_ "call p 1 = 1",S_ "name p 1"]]
noncomputable def mrT:List (List Str):=mrA++mrB++mrC++mrD
noncomputable def rw_ (zss:List (List Str)):List (List Tr):=zss.map fun zs=>zs.map Tr.str
theorem uI {zs:List Str} (h:zs∈mrT):Ls zs:=by
 have:mrT.all (fun zs=>decide (zs.length≤40)&&zs.all fun z=>decide (z.length≤200))=true:=by decide +kernel
 have:=vj.mp this zs h
 rw [v4,decide_eq_true_eq,vj] at this
 exact ⟨this.1,fun z m=>of_decide_eq_true (this.2 z m)⟩
noncomputable def asV:Stmt→Expr
 | .Assign _ v _=>v
 |_=> .Constant .none 0 ⟨0,0,0,0⟩
def bR:Expr→Expr
 | .BinOp _ _ b _=>b
 |e=>e
noncomputable def bdy (st:Stmt) (i:Nat):Stmt:=(aB st).getD i (.Pass ⟨0,0,0,0⟩)
theorem eM2:gt 2 (bR (asV (bdy sLaw 8)))=some (rw_ mrB):=by with_unfolding_all rfl
theorem eM3:gt 2 (bR (asV (bdy sLaw 9)))=some (rw_ mrC):=by with_unfolding_all rfl
theorem eM4:gt 2 (bR (asV (bdy sLaw 10)))=some (rw_ mrD):=by with_unfolding_all rfl
def lsE:Expr→List Expr
 | .List es _=>es
 |_=> []
noncomputable def subA:Stmt→List Expr→Stmt
 | .Assign ts (.List _ q) p,L=> .Assign ts (.List L q) p
 |s,_=>s
theorem eM0:d5 2 (lsE (asV (bdy sLaw 7)))=some (rw_ mrA)∧(lsE (asV (bdy sLaw 7))).length≤100:=⟨by with_unfolding_all rfl,by decide +kernel⟩
def rLst (K:PySem.W.Frag):List V→Hp→VK→Prop:=fun xs H Q=>∃p ys,xs= [.ref p]∧(SqL K H p ys∨SqT K H p ys)∧∀l,H l=none→Q (.ref l) (upd H l (.lst ys))
noncomputable def subB:Stmt→Expr→Stmt
 | .Assign ts (.BinOp a op _ q) p,L=> .Assign ts (.BinOp a op L q) p
 |s,_=>s
theorem r9:aB sLaw=bdy sLaw 0::bdy sLaw 1::bdy sLaw 2::bdy sLaw 3::bdy sLaw 4::bdy sLaw 5::bdy sLaw 6::subA (bdy sLaw 7) (lsE (asV (bdy sLaw 7)))::subB (bdy sLaw 8) (bR (asV (bdy sLaw 8)))::subB (bdy sLaw 9) (bR (asV (bdy sLaw 9)))::subB (bdy sLaw 10) (bR (asV (bdy sLaw 10)))::(aB sLaw).drop 11:=rfl
def jW (K:PySem.W.Frag):Sp:=fun vs H Q _=>∃(a:Addr) (ns:List Int),vs= [.ref a]∧SqL K H a (ns.map V.int)∧ns.length≤63∧∀H',Q (.bl true) H'
theorem scLw:aN ["_law_script","_law_good","_law_due_here","_law_lines","_law_k","_law_handed","_law_more"] ["_law_script"] (af sLaw):=⟨rfl,rfl,rfl,by decide +kernel,rfl,by decide +kernel,by decide +kernel⟩
theorem sZ {f fM fU fA fS fD:Addr} {fd dM dU dA dS dD:FuncData} (F:Fun K "law" "law" sLaw f fd) (B:Blt mg)
 (gD:FnOk P w K mg base CX0 1 fD dD ["_law_script","_law_k","_law_many"] (eY K)) (kD:PySem.W.keepIn K (.ref fD)=true) (bD:Binds K dD ["_law_script","_law_k","_law_many"] []) (mD:mg "_law_draw"=some (.ref fD))
 (gM:FnOk P w K mg base CX0 2 fM dM ["_law_script"] (jo K)) (kM:PySem.W.keepIn K (.ref fM)=true) (bM:Binds K dM ["_law_script"] []) (mM:mg "_law_made"=some (.ref fM))
 (gS:FnOk P w K mg base CX0 2 fS dS ["_law_script","_law_k","_law_lines"] (nJ K)) (kS:PySem.W.keepIn K (.ref fS)=true) (bS:Binds K dS ["_law_script","_law_k","_law_lines"] []) (mS:mg "_law_spoiled"=some (.ref fS))
 (gU:FnOk P w K mg base CX0 4 fU dU ["_law_lines"] (spAn P w K)) (kU:PySem.W.keepIn K (.ref fU)=true) (bU:Binds K dU ["_law_lines"] []) (mU:mg "_law_due"=some (.ref fU))
 (gA:FnOk P w K mg base CX0 7 fA dA ["_law_lines"] (spAn P w K)) (kA:PySem.W.keepIn K (.ref fA)=true) (bA:Binds K dA ["_law_lines"] []) (mA:mg "_law_asked"=some (.ref fA)):FnOk P w K mg base CX0 8 f fd ["_law_script"] (jW K):=by
 refine F.ok scLw (fun vs H Q E h=> ?_) (fun cdv A outer s H vs Q E hr h=> ?_)
 · obtain ⟨a,ns,rfl,_⟩:=h
   rfl
 obtain ⟨a,ns,rfl,hS,h63,k⟩:=h
 have hr1:Room 1 _:=hr.mono (by decide)
 have hr2:Room 2 _:=hr.mono (by decide)
 have hr4:Room 4 _:=hr.mono (by decide)
 have hun:=hr.units
 have hu50:_+50 < cLine:=vA (vI (by decide) _) hun
 have hu60:_+60 < cLine:=vA (vI (by decide) _) hun
 have eL0:=eM0
 have eL2:=eM2
 have eL3:=eM3
 have eL4:=eM4
 rw [r9]
 generalize lsE (asV (bdy sLaw 7))=LE1 at eL0 ⊢
 have eL1:∀q,gt 2 (.List LE1 q)=some (rw_ mrA):=fun q=>by
  show (if LE1.length≤100 then d5 2 LE1 else none)=_
  rw [if_pos eL0.2]
  exact eL0.1
 generalize bR (asV (bdy sLaw 8))=LE2 at eL2 ⊢
 generalize bR (asV (bdy sLaw 9))=LE3 at eL3 ⊢
 generalize bR (asV (bdy sLaw 10))=LE4 at eL4 ⊢
 refine ⟨_,a9 (ar (i:=1) scLw.nd rfl (Or.inl rfl) (au gM hr2 rfl mM kM bM .nil aL (a7 (pv 0) a8)))
  (a9 (ar (i:=2) scLw.nd rfl (Or.inl rfl) (au gU hr4 rfl mU kU bU .nil aL (a7 (pv 1) a8)))
  (a9 (aS (PW.pt (bf (cw (bq (aq (r:=rIsi K) jb rfl B.isi aQ (a7 (pv 2) (a7 (i8 (v:= .ty "tuple") rfl B.tu PyProof.Rows.boot_tuple rfl) a8))))) (bi (ah (jt (P:=P) (w:=w) (K:=K) rfl rfl rfl hu60) (au gA hr rfl mA kA bA .nil aL (a7 (aJ bx rfl B.li PyProof.Rows.boot_list (a7 (pv 1) a8)) a8)) (pv 2) (ao _))))) (ag (aA eA)) aw)
  (a9 (ar (i:=3) scLw.nd rfl (Or.inl rfl) (pv 1))
  (a9 (d8 PassesOwn.never rfl (dQ rfl B.ra (a7 (ak aX ac (au gD hr1 rfl mD kD bD .nil aL (a7 (pv 0) (a7 ac (a7 ac a8))))) a8)) (aY (i:=4) scLw.nd rfl (Or.inl rfl))
   (ag (ar (i:=3) scLw.nd rfl (Or.inl rfl) (au gS hr2 rfl mS kS bS .nil aL (a7 (pv 0) (a7 (ak aX ac (ak cy ac (pv 4))) (a7 (pv 3) a8)))))))
  (a9 (ar (i:=5) scLw.nd rfl (Or.inl rfl) (aJ bx rfl B.li PyProof.Rows.boot_list (a7 (pv 3) a8)))
  (a9 (aS (PW.pt (bf (ah (jt (P:=P) (w:=w) (K:=K) rfl rfl rfl hu60) (au gA hr rfl mA kA bA .nil aL (a7 (pv 5) a8)) (au gU hr4 rfl mU kU bU .nil aL (a7 (pv 3) a8)) (ao _)) (bf (ah (sU hu60) (pv 5) (pv 3) (ao _)) (bi (ah (jt (P:=P) (w:=w) (K:=K) rfl rfl rfl hu60) (au gA hr rfl mA kA bA .nil aL (a7 (aJ bx rfl B.li PyProof.Rows.boot_list (a7 (pv 1) a8)) a8)) (pv 2) (ao _)))))) (ag (aA eA)) aw)
  (a9 (ar (i:=6) scLw.nd rfl (Or.inl rfl) (dq 2 (eL1 _)))
  (a9 (ar (i:=6) scLw.nd rfl (Or.inl rfl) (ak d9 (pv 6) (dq 2 eL2)))
  (a9 (ar (i:=6) scLw.nd rfl (Or.inl rfl) (ak d9 (pv 6) (dq 2 eL3)))
  (a9 (ar (i:=6) scLw.nd rfl (Or.inl rfl) (ak d9 (pv 6) (dq 2 eL4)))
  (ag (aA (dw (qv hu50) eA (qr (NC:= ["_law_one"]) (mp:= [none]) (wi:=rS K (tVar 6)) rfl (i4 (pv 6)) (fun _ _ _ _ _=>aY (i:=0) (by simp) rfl (Or.inl rfl)) (fun _ _ _ _ _=>k6) (fun _ _ _ _ _=>dw (r:=rEqW P w K) (sV (P:=P) (w:=w) (K:=K) rfl rfl rfl hu60) (au gA hr rfl mA kA bA .nil aL (a7 (aJ (r:=rLst K) bx rfl B.li PyProof.Rows.boot_list (a7 (pv 0) a8)) a8)) (au gU hr4 rfl mU kU bU .nil aL (a7 (pv 0) a8)) (ao _))) (by with_unfolding_all rfl)))))))))))))),?_⟩
 have hZ:(20000:Nat)≤sizeLine:=by decide +kernel
 refine az (fun σ' H1=>Same H H1∧∃(g:Addr) (zs:List Str) (es:List Et),σ'= [some (.ref a),some (.ref g),none,none,none,none,none]∧H1 g=some (.lst (zs.map V.str))∧Gl_ 6 60 zs∧wkF 0 [] zs= .inr es) ?_ fun nx hnx=> ?_
 rotate_left
 · exact ⟨_,rfl,a,ns,rfl,hS,h63,fun g zs es H1 _ s1 h1 z6 z60 we=>hnx _ _ ⟨s1,g,zs,es,rfl,h1,⟨z6,z60⟩,we⟩⟩
 rintro _ H1 ⟨s1,g,zs,es,rfl,hg1,hG,we⟩
 have hLs:=hG.ls (by decide) (by decide)
 refine az (fun σ' H2=>Same H1 H2∧∃v,σ'= [some (.ref a),some (.ref g),some v,none,none,none,none]∧Ans P w K H2 v zs) ?_ fun nx hnx=> ?_
 rotate_left
 · exact ⟨_,rfl,g,zs,rfl,hg1,hLs,fun v H2 s2 an=>hnx _ _ ⟨s2,v,rfl,an⟩⟩
 rintro _ H2 ⟨s2,v,rfl,an2⟩
 have hg2:=s2 _ _ hg1
 have hS2:=SqL.same (s1.trans s2) hS
 clear s1 s2 hg1 hS
 have tv:∃r xs,v= .ref r∧H2 r=some (.tup xs):=by
  rcases an2 with ⟨n,e,_⟩|⟨es',r,F',D',C',_,e,c,_⟩
  · rw [we] at e;cases e
  · exact ⟨r,_,e,c⟩
 refine az (fun σ' H3=>Same H2 H3∧σ'= [some (.ref a),some (.ref g),some v,none,none,none,none]) ?_ fun nx hnx=> ?_
 rotate_left
 · obtain ⟨r,xs,rfl,hr'⟩:=tv
   refine ⟨_,rfl, .ref r, .ty "tuple", .type "tuple",true,rfl, .of (.tup hr'), .inl ⟨rfl,tG K⟩,_,rfl,iteF ?_⟩
   refine ⟨_,rfl,g,_,rfl, .inl (SqL.of hg2),fun l nl=> ?_⟩
   have q1:=ae (o:= .lst (zs.map V.str)) nl
   refine ⟨l,zs,rfl,aa,hLs,fun u H3 q2 an3=> ?_⟩
   exact ⟨_,rfl,jO an3 (an2.same (q1.trans q2)) ⟨_,rfl,iteF (hnx _ _ ⟨q1.trans q2,rfl⟩)⟩⟩
 rintro _ H3 ⟨s3,rfl⟩
 have an3:=an2.same s3
 have hg3:=s3 _ _ hg2
 have hS3:=SqL.same s3 hS2
 clear s3 hg2 hS2 an2 tv
 refine ⟨_,rfl,?_⟩
 refine aM ?_
 try dsimp only
 refine ⟨_,rfl,a,ns,1,2,rfl,hS3,h63,by decide,by decide,by decide,fun r r0 r2=> ?_⟩
 refine ⟨1,r,rfl,rfl,(1+r).toNat,by rw [Int.toNat_of_nonneg (by omega)],by omega,by omega,?_⟩
 refine dX (n:=(1+r).toNat) (fun i σ H'=>Same H3 H'∧∃(l:Addr) (ys:List Str) (x4:Option V),σ= [some (.ref a),some (.ref g),some v,some (.ref l),x4,none,none]∧H' l=some (.lst (ys.map V.str))∧Gl_ (6+i) (60+6*i) ys)
  ⟨Same.refl H3,g,zs,none,rfl,hg3,hG⟩ ?_ ?_
 · rintro i σ H4 hi ⟨s4,l,ys,x4,rfl,hl4,hY⟩
   refine aM ?_
   try dsimp only
   rw [show (0:Int)+(i:Int)=(i:Int) by omega]
   refine ⟨_,rfl,_,rfl,10,_,rfl,rfl, .inl ⟨by decide,by decide⟩,_,_,rfl,rfl,_,rfl,a,l,ns,100+10*i,ys,6+i,60+6*i,?_,SqL.same s4 hS3,h63,by omega,hl4,hY,by omega,by omega,by omega,fun l' ys' H5 nl' s5 hl5 hY5=> ?_⟩
   · simp
   · exact ⟨s4.trans s5,l',ys',_,rfl,hl5,by rw [show 6+(i+1)=6+i+1 by omega,show 60+6*(i+1)=60+6*i+6 by omega];exact hY5⟩
 rintro σ H4 ⟨s4,l,ys,x4,rfl,hl4,hY⟩
 have hYs:Ls ys:=hY.ls (by omega) (by omega)
 have an4:=an3.same s4
 have hg4:=s4 _ _ hg3
 clear s4 an3 hg3 hS3
 refine ⟨_,rfl,l,_,rfl, .inl (SqL.of hl4),fun hd nh=> ?_⟩
 have q4:=ae (o:= .lst (ys.map V.str)) nh
 have hh5:(upd H4 hd (.lst (ys.map V.str))) hd=some (.lst (ys.map V.str)):=aa
 generalize upd H4 hd (.lst (ys.map V.str))=H5 at q4 hh5
 refine aM ?_
 try dsimp only
 have hl5:=q4 _ _ hl4
 have an5:=an4.same q4
 have hg5:=q4 _ _ hg4
 refine az (fun σ' H8=>σ'= [some (.ref a),some (.ref g),some v,some (.ref l),x4,some (.ref hd),none]) ?_ fun nx hnx=> ?_
 rotate_left
 · refine ⟨_,rfl,hd,ys,rfl,hh5,hYs,fun u1 H6 q6 b1=> ?_⟩
   refine ⟨_,rfl,l,ys,rfl,q6 _ _ hl5,hYs,fun u2 H7 q7 b2=> ?_⟩
   refine jO (b1.same q7) b2 ⟨_,rfl,iteF ?_⟩
   have q57:=q6.trans q7
   refine ⟨_,rfl,_,rfl,hd,l,_,_,ys.map Tr.str,ys.map Tr.str,rfl,rfl,q57 _ _ hh5,q57 _ _ hl5,hJ,hJ, .inl (g8 ys),iB ys,_,rfl,?_⟩
   rw [eqTs_refl]
   refine iteF ?_
   refine ⟨_,rfl,g,_,rfl, .inl (SqL.of (q57 _ _ hg5)),fun p np=> ?_⟩
   have q8:=ae (o:= .lst (zs.map V.str)) np
   refine ⟨p,zs,rfl,aa,hLs,fun u3 H8 q9 b3=> ?_⟩
   exact ⟨_,rfl,jO b3 (an5.same (q57.trans (q8.trans q9))) ⟨_,rfl,iteF (hnx _ _ rfl)⟩⟩
 rintro _ H8 rfl
 refine az (fun σ' H9=>∃M qs,σ'= [some (.ref a),some (.ref g),some v,some (.ref l),x4,some (.ref hd),some (.ref M)]∧H9 M=some (.lst qs)∧LsAt H9 qs (rw_ mrA)) ?_ fun nx hnx=> ?_
 rotate_left
 · exact fun M qs H9 _ _ hM hq=>hnx _ _ ⟨M,qs,rfl,hM,hq⟩
 rintro _ H9 ⟨M1,q1,rfl,hM1,hq1⟩
 have ap:∀(A B:List (List Str)),rw_ A++rw_ B=rw_ (A++B):=fun A B=>by unfold rw_;rw [vp]
 refine az (fun σ' H9=>∃M qs,σ'= [some (.ref a),some (.ref g),some v,some (.ref l),x4,some (.ref hd),some (.ref M)]∧H9 M=some (.lst qs)∧LsAt H9 qs (rw_ (mrA++mrB))) ?_ fun nx hnx=> ?_
 rotate_left
 · refine ⟨_,rfl,fun M2 q2 Ha sa na hM2 hq2=> ?_⟩
   refine ⟨M1,M2,q1,q2,rfl,rfl,sa _ _ hM1,hM2,?_,fun M nM=> ?_⟩
   · have l1:=hq1.len
     have l2:=hq2.len
     rw [l1,l2]
     decide +kernel
   · have sM:=ae (o:= .lst (q1++q2)) nM
     exact hnx _ _ ⟨M,q1++q2,rfl,aa,by rw [←ap];exact LsAt.app2 ((hq1.same sa).same sM) (hq2.same sM)⟩
 clear hM1 hq1
 rintro _ H9 ⟨M1,q1,rfl,hM1,hq1⟩
 refine az (fun σ' H9=>∃M qs,σ'= [some (.ref a),some (.ref g),some v,some (.ref l),x4,some (.ref hd),some (.ref M)]∧H9 M=some (.lst qs)∧LsAt H9 qs (rw_ (mrA++mrB++mrC))) ?_ fun nx hnx=> ?_
 rotate_left
 · refine ⟨_,rfl,fun M2 q2 Ha sa na hM2 hq2=> ?_⟩
   refine ⟨M1,M2,q1,q2,rfl,rfl,sa _ _ hM1,hM2,?_,fun M nM=> ?_⟩
   · have l1:=hq1.len
     have l2:=hq2.len
     rw [l1,l2]
     decide +kernel
   · have sM:=ae (o:= .lst (q1++q2)) nM
     exact hnx _ _ ⟨M,q1++q2,rfl,aa,by rw [←ap];exact LsAt.app2 ((hq1.same sa).same sM) (hq2.same sM)⟩
 clear hM1 hq1
 rintro _ H9 ⟨M1,q1,rfl,hM1,hq1⟩
 refine az (fun σ' H9=>∃M qs,σ'= [some (.ref a),some (.ref g),some v,some (.ref l),x4,some (.ref hd),some (.ref M)]∧H9 M=some (.lst qs)∧LsAt H9 qs (rw_ (mrT))) ?_ fun nx hnx=> ?_
 rotate_left
 · refine ⟨_,rfl,fun M2 q2 Ha sa na hM2 hq2=> ?_⟩
   refine ⟨M1,M2,q1,q2,rfl,rfl,sa _ _ hM1,hM2,?_,fun M nM=> ?_⟩
   · have l1:=hq1.len
     have l2:=hq2.len
     rw [l1,l2]
     decide +kernel
   · have sM:=ae (o:= .lst (q1++q2)) nM
     exact hnx _ _ ⟨M,q1++q2,rfl,aa,by show LsAt _ _ (rw_ (mrA++mrB++mrC++mrD));rw [←ap];exact LsAt.app2 ((hq1.same sa).same sM) (hq2.same sM)⟩
 clear hM1 hq1
 rintro _ H9 ⟨M,qs,rfl,hM,hq⟩
 have ql:=hq.len
 have mr12:(rw_ mrT).length=12:=by decide +kernel
 refine nZ rfl ?_
 refine ⟨_,rfl,M,rfl,⟨_,SqL.of hM⟩,fun D nD=> ?_⟩
 refine gJ (xs:=qs) (fun i acc H'=>Same H9 H'∧H' D=some (.lst acc)∧acc=(List.replicate i true).map V.bl) ⟨ae nD,aa,rfl⟩ (fun i acc H' q=>SqL.of (q.1 _ _ hM)) ?_ ?_
 · rintro i x acc Ha hi ex ⟨sa,hD,ha⟩
   have hi2:i < mrT.length:=by
    have:(rw_ mrT).length=mrT.length:=uT _
    omega
   have er:(rw_ mrT)[i]?=some (mrT[i].map Tr.str):=by
    unfold rw_
    rw [vn,uV hi2]
    rfl
   have hLi:=uI (List.getElem_mem hi2)
   obtain ⟨q,vs,eq,hq',hT⟩:=hq.get er
   rw [eq] at ex
   cases ex
   have:=jV hT
   subst this
   generalize mrT[i]=ys' at hLi hq'
   have hqa:=sa _ _ hq'
   have al:acc.length=i:=by rw [ha,uT,vW]
   refine ⟨_,rfl,q,_,rfl, .inl (SqL.of hqa),fun p np=> ?_⟩
   have t1:=ae (o:= .lst (ys'.map V.str)) np
   refine ⟨p,ys',rfl,aa,hLi,fun u1 Hb t2 b1=> ?_⟩
   have t12:=t1.trans t2
   refine ⟨_,rfl,q,ys',rfl,t12 _ _ hqa,hLi,fun u2 Hc t3 b2=> ?_⟩
   refine u4 (b1.same t3) b2 ?_
   have t13:=t12.trans t3
   refine CompN.mk hi (by omega) (t13 _ _ hD) ⟨b8 nD (sa.trans t13),aa,?_⟩
   rw [ha,List.replicate_succ',vp]
   rfl
 · rintro acc Ha ⟨sa,hD,ha⟩
   refine ⟨D,acc,(List.replicate qs.length true).map Tr.bl, .bl false,rfl, .inl hD,by rw [ha];exact pJ,pM,mK,trivial,?_⟩
   rw [lH]
   have:(List.replicate qs.length true).any (· ==false)=false:=by
    rw [vT]
    intro z
    obtain ⟨b,mb,q⟩:=List.any_eq_true.mp z
    rw [(List.mem_replicate.mp mb).2] at q
    cases q
   rw [this]
   exact k _
end
end K85
namespace K85
open PySem L2 Mth Wd
theorem ex0 {n:Nat} (us:List Value) (hl:us.length=n+1):∃a vs,us=a::vs∧vs.length=n:=by
 cases us with
 |nil=>cases hl
 |cons a vs=>exact ⟨a,vs,rfl,Nat.succ.inj hl⟩
theorem ex1 (us:List Value) (hl:us.length=1):∃a,us= [a]:=by
 obtain ⟨a,vs,rfl,h⟩:=ex0 us hl
 exact ⟨a,by rw [List.eq_nil_of_length_eq_zero h]⟩
theorem ex2 (us:List Value) (hl:us.length=2):∃a b,us= [a,b]:=by
 obtain ⟨a,vs,rfl,h⟩:=ex0 us hl
 obtain ⟨b,rfl⟩:=ex1 vs h
 exact ⟨a,b,rfl⟩
theorem ex3 (us:List Value) (hl:us.length=3):∃a b c,us= [a,b,c]:=by
 obtain ⟨a,vs,rfl,h⟩:=ex0 us hl
 obtain ⟨b,c,rfl⟩:=ex2 vs h
 exact ⟨a,b,c,rfl⟩
theorem cg {K:PySem.W.Frag} {S Ci:Addr} (e1:(Value.ref S==Value.ref Ci)=false) (e2:PySem.W.isClsIn K Ci=true) (e3:PySem.W.typeIn K (.ref Ci)=some (.type "type")) (e4:PySem.W.subIn K (.ref S) (.ref Ci)=some false):PySem.W.kitOne K (.ref S) (.ref Ci)=some false:=by
 unfold PySem.W.kitOne PySem.W.kitCls
 dsimp only
 rw [e1,show (PySem.W.clsIn K Ci).isSome=true from e2,e3,e4]
 rfl
theorem tF {K:PySem.W.Frag} {S:Addr} (e:PySem.W.subIn K (.ref S) (.type "ValueError")=some true):PySem.W.kitOne K (.ref S) (.type "ValueError")=some true:=by
 unfold PySem.W.kitOne PySem.W.kitCls
 rw [if_neg (by simp)]
 dsimp only
 rw [if_pos (by decide +kernel),e]
theorem uP {K:PySem.W.Frag} {S W:Addr} (sW:PySem.W.subIn K (.ref W) (.type "BaseException")=some true) (dW:PySem.W.isClsIn K W=true) (tW:PySem.W.typeIn K (.ref W)=some (.type "type")) (e:PySem.W.subIn K (.ref S) (.ref W)=some true):PySem.W.exmOne K (.ref S) (.ref W)=some true:=by
 unfold PySem.W.exmOne PySem.W.kitCls
 dsimp only
 rw [sW,show (PySem.W.clsIn K W).isSome=true from dW,tW,e]
 rfl
theorem oS {K:PySem.W.Frag} {S a b c d:Addr} (h1:PySem.W.kitOne K (.ref S) (.ref a)=some false) (h2:PySem.W.kitOne K (.ref S) (.ref b)=some false) (h3:PySem.W.kitOne K (.ref S) (.ref c)=some false) (h4:PySem.W.kitOne K (.ref S) (.ref d)=some false):PySem.W.kitAny K (.ref S) [.ref a, .ref b, .ref c, .ref d]=some false:=by
 unfold PySem.W.kitAny
 try dsimp only
 rw [h1]
 unfold PySem.W.kitAny
 try dsimp only
 rw [h2]
 unfold PySem.W.kitAny
 try dsimp only
 rw [h3]
 unfold PySem.W.kitAny
 try dsimp only
 rw [h4]
 rfl
theorem og {K:PySem.W.Frag} {C:Addr} {nm qn:Str} {Nn:Addr} {bs bm:List Value} {hdct:Bool} {sn:List Str} {sub:List Value} {ab:Bool} {col:Option Bool} {dd:Option Addr} {k0 k1 k2 k3 k5:Option Value} (lC:K.lookup C=some (excClassObj nm qn C Nn bs bm hdct sn sub ab col dd k0 k1 k2 k3 k5 "ValueError.__new__")) (h1:cR (.ref C::bm)=true) (h2:hdct=true):cq K C=true:=by
 unfold cq PySem.W.clsIn
 rw [lC]
 simp only [excClassObj]
 subst h2
 simp [h1]
theorem all_mk {l:PySem.W.OpenLaw} {w:World} {K:PySem.W.Frag} {h:Heap} {mg:Str→Option Value} {fa:Addr} (X:K.In h) (G:h.Ns mainGlobals mg) (hfa:mg "law"=some (.ref fa))
 {C W:Addr}
 {fNT fWI:Addr}
 {odNT anNT:Option Addr} {slNT:Array (Option Value)} {ocNT kVNT dcNT pmNT cdNT ctNT:Value}
 {odWI anWI:Option Addr} {slWI:Array (Option Value)} {ocWI kVWI dcWI pmWI cdWI ctWI:Value}
 {fCD:Addr} {odCD anCD:Option Addr} {slCD:Array (Option Value)} {ocCD kVCD dcCD pmCD cdCD ctCD:Value}
 {fFR:Addr} {odFR anFR:Option Addr} {slFR:Array (Option Value)} {ocFR kVFR dcFR pmFR cdFR ctFR:Value}
 {fFG:Addr} {odFG anFG:Option Addr} {slFG:Array (Option Value)} {ocFG kVFG dcFG pmFG cdFG ctFG:Value}
 {fAF:Addr} {odAF anAF:Option Addr} {slAF:Array (Option Value)} {ocAF kVAF dcAF pmAF cdAF ctAF:Value}
 {fNO:Addr} {odNO anNO:Option Addr} {slNO:Array (Option Value)} {ocNO kVNO dcNO pmNO cdNO ctNO:Value}
 {fFT:Addr} {odFT anFT:Option Addr} {slFT:Array (Option Value)} {ocFT kVFT dcFT pmFT cdFT ctFT:Value}
 {fFI:Addr} {odFI anFI:Option Addr} {slFI:Array (Option Value)} {ocFI kVFI dcFI pmFI cdFI ctFI:Value}
 {fNQ:Addr} {odNQ anNQ:Option Addr} {slNQ:Array (Option Value)} {ocNQ kVNQ dcNQ pmNQ cdNQ ctNQ:Value}
 {fRW:Addr} {odRW anRW:Option Addr} {slRW:Array (Option Value)} {ocRW kVRW dcRW pmRW cdRW ctRW:Value}
 {fEN:Addr} {odEN anEN:Option Addr} {slEN:Array (Option Value)} {ocEN kVEN dcEN pmEN cdEN ctEN:Value}
 {fDR:Addr} {odDR anDR:Option Addr} {slDR:Array (Option Value)} {ocDR kVDR dcDR pmDR cdDR ctDR:Value}
 {fMD:Addr} {odMD anMD:Option Addr} {slMD:Array (Option Value)} {ocMD kVMD dcMD pmMD cdMD ctMD:Value}
 {fSP:Addr} {odSP anSP:Option Addr} {slSP:Array (Option Value)} {ocSP kVSP dcSP pmSP cdSP ctSP:Value}
 {fLF:Addr} {odLF anLF:Option Addr} {slLF:Array (Option Value)} {ocLF kVLF dcLF pmLF cdLF ctLF:Value}
 {fLR:Addr} {odLR anLR:Option Addr} {slLR:Array (Option Value)} {ocLR kVLR dcLR pmLR cdLR ctLR:Value}
 {fLN:Addr} {odLN anLN:Option Addr} {slLN:Array (Option Value)} {ocLN kVLN dcLN pmLN cdLN ctLN:Value}
 {fLI:Addr} {odLI anLI:Option Addr} {slLI:Array (Option Value)} {ocLI kVLI dcLI pmLI cdLI ctLI:Value}
 {fDU:Addr} {odDU anDU:Option Addr} {slDU:Array (Option Value)} {ocDU kVDU dcDU pmDU cdDU ctDU:Value}
 {fRF:Addr} {odRF anRF:Option Addr} {slRF:Array (Option Value)} {ocRF kVRF dcRF pmRF cdRF ctRF:Value}
 {fAK:Addr} {odAK anAK:Option Addr} {slAK:Array (Option Value)} {ocAK kVAK dcAK pmAK cdAK ctAK:Value}
 {fLA:Addr} {odLA anLA:Option Addr} {slLA:Array (Option Value)} {ocLA kVLA dcLA pmLA cdLA ctLA:Value}
 {tk1 tk2 tp tw:Tok} {pw:Int}
 {cL cW cA cN c1 c2 c3 c4:Addr}
 {nm qn:Str} {Nn:Addr} {bs bm:List Value} {hdct:Bool} {sn:List Str} {sub:List Value} {ab:Bool} {col:Option Bool} {dd:Option Addr} {k0 k1 k2 k3 k5:Option Value}
 (aC:PySem.W.nsIn K mainGlobals "NoText"=some (some (.ref C)))
 (aW:PySem.W.nsIn K mainGlobals "WishError"=some (some (.ref W)))
 (iC:PySem.W.findIn K (.ref C) "__init__"=some (some (.ref fNT)))
 (iW:PySem.W.findIn K (.ref W) "__init__"=some (some (.ref fWI)))
 (lNT:K.lookup fNT=some ⟨ocNT,odNT, .func (PySem.W.fnOf "__init__" "NoText.__init__" (aK sNTi) (aB sNTi) (af sNTi) .none kVNT dcNT pmNT anNT cdNT ctNT),slNT⟩)
 (cNT:PySem.W.codeIn K cdNT "NoText.__init__"=true)
 (kNT:PySem.W.keepIn K (.ref fNT)=true)
 (lWI:K.lookup fWI=some ⟨ocWI,odWI, .func (PySem.W.fnOf "__init__" "WishError.__init__" (aK gk) (aB gk) (af gk) .none kVWI dcWI pmWI anWI cdWI ctWI),slWI⟩)
 (cWI:PySem.W.codeIn K cdWI "WishError.__init__"=true)
 (kWI:PySem.W.keepIn K (.ref fWI)=true)
 (fnC:PySem.W.isFn K (.ref fNT)=true)
 (aCD:PySem.W.nsIn K mainGlobals "common_divisor"=some (some (.ref fCD)))
 (lCD:K.lookup fCD=some ⟨ocCD,odCD, .func (PySem.W.fnOf "common_divisor" "common_divisor" (aK sCd) (aB sCd) (af sCd) .none kVCD dcCD pmCD anCD cdCD ctCD),slCD⟩)
 (cCD:PySem.W.codeIn K cdCD "common_divisor"=true)
 (kCD:PySem.W.keepIn K (.ref fCD)=true)
 (aFR:PySem.W.nsIn K mainGlobals "fraction"=some (some (.ref fFR)))
 (lFR:K.lookup fFR=some ⟨ocFR,odFR, .func (PySem.W.fnOf "fraction" "fraction" (aK sFr) (aB sFr) (af sFr) .none kVFR dcFR pmFR anFR cdFR ctFR),slFR⟩)
 (cFR:PySem.W.codeIn K cdFR "fraction"=true)
 (kFR:PySem.W.keepIn K (.ref fFR)=true)
 (aFG:PySem.W.nsIn K mainGlobals "figures_of"=some (some (.ref fFG)))
 (lFG:K.lookup fFG=some ⟨ocFG,odFG, .func (PySem.W.fnOf "figures_of" "figures_of" (aK sFg) (aB sFg) (af sFg) .none kVFG dcFG pmFG anFG cdFG ctFG),slFG⟩)
 (cFG:PySem.W.codeIn K cdFG "figures_of"=true)
 (kFG:PySem.W.keepIn K (.ref fFG)=true)
 (aAF:PySem.W.nsIn K mainGlobals "are_figures"=some (some (.ref fAF)))
 (lAF:K.lookup fAF=some ⟨ocAF,odAF, .func (PySem.W.fnOf "are_figures" "are_figures" (aK sAf) (aB sAf) (af sAf) .none kVAF dcAF pmAF anAF cdAF ctAF),slAF⟩)
 (cAF:PySem.W.codeIn K cdAF "are_figures"=true)
 (kAF:PySem.W.keepIn K (.ref fAF)=true)
 (aNO:PySem.W.nsIn K mainGlobals "number_of"=some (some (.ref fNO)))
 (lNO:K.lookup fNO=some ⟨ocNO,odNO, .func (PySem.W.fnOf "number_of" "number_of" (aK sNo) (aB sNo) (af sNo) .none kVNO dcNO pmNO anNO cdNO ctNO),slNO⟩)
 (cNO:PySem.W.codeIn K cdNO "number_of"=true)
 (kNO:PySem.W.keepIn K (.ref fNO)=true)
 (aFT:PySem.W.nsIn K mainGlobals "fraction_text"=some (some (.ref fFT)))
 (lFT:K.lookup fFT=some ⟨ocFT,odFT, .func (PySem.W.fnOf "fraction_text" "fraction_text" (aK sFt) (aB sFt) (af sFt) .none kVFT dcFT pmFT anFT cdFT ctFT),slFT⟩)
 (cFT:PySem.W.codeIn K cdFT "fraction_text"=true)
 (kFT:PySem.W.keepIn K (.ref fFT)=true)
 (aFI:PySem.W.nsIn K mainGlobals "fraction_in"=some (some (.ref fFI)))
 (lFI:K.lookup fFI=some ⟨ocFI,odFI, .func (PySem.W.fnOf "fraction_in" "fraction_in" (aK sFi) (aB sFi) (af sFi) .none kVFI dcFI pmFI anFI cdFI ctFI),slFI⟩)
 (cFI:PySem.W.codeIn K cdFI "fraction_in"=true)
 (kFI:PySem.W.keepIn K (.ref fFI)=true)
 (aNQ:PySem.W.nsIn K mainGlobals "is_name"=some (some (.ref fNQ)))
 (lNQ:K.lookup fNQ=some ⟨ocNQ,odNQ, .func (PySem.W.fnOf "is_name" "is_name" (aK sNmQ) (aB sNmQ) (af sNmQ) .none kVNQ dcNQ pmNQ anNQ cdNQ ctNQ),slNQ⟩)
 (cNQ:PySem.W.codeIn K cdNQ "is_name"=true)
 (kNQ:PySem.W.keepIn K (.ref fNQ)=true)
 (aRW:PySem.W.nsIn K mainGlobals "read_world"=some (some (.ref fRW)))
 (lRW:K.lookup fRW=some ⟨ocRW,odRW, .func (PySem.W.fnOf "read_world" "read_world" (aK sRdw) (aB sRdw) (af sRdw) .none kVRW dcRW pmRW anRW cdRW ctRW),slRW⟩)
 (cRW:PySem.W.codeIn K cdRW "read_world"=true)
 (kRW:PySem.W.keepIn K (.ref fRW)=true)
 (aEN:PySem.W.nsIn K mainGlobals "entry_in"=some (some (.ref fEN)))
 (lEN:K.lookup fEN=some ⟨ocEN,odEN, .func (PySem.W.fnOf "entry_in" "entry_in" (aK sEnt) (aB sEnt) (af sEnt) .none kVEN dcEN pmEN anEN cdEN ctEN),slEN⟩)
 (cEN:PySem.W.codeIn K cdEN "entry_in"=true)
 (kEN:PySem.W.keepIn K (.ref fEN)=true)
 (aDR:PySem.W.nsIn K mainGlobals "_law_draw"=some (some (.ref fDR)))
 (lDR:K.lookup fDR=some ⟨ocDR,odDR, .func (PySem.W.fnOf "_law_draw" "_law_draw" (aK gm) (aB gm) (af gm) .none kVDR dcDR pmDR anDR cdDR ctDR),slDR⟩)
 (cDR:PySem.W.codeIn K cdDR "_law_draw"=true)
 (kDR:PySem.W.keepIn K (.ref fDR)=true)
 (aMD:PySem.W.nsIn K mainGlobals "_law_made"=some (some (.ref fMD)))
 (lMD:K.lookup fMD=some ⟨ocMD,odMD, .func (PySem.W.fnOf "_law_made" "_law_made" (aK gh) (aB gh) (af gh) .none kVMD dcMD pmMD anMD cdMD ctMD),slMD⟩)
 (cMD:PySem.W.codeIn K cdMD "_law_made"=true)
 (kMD:PySem.W.keepIn K (.ref fMD)=true)
 (aSP:PySem.W.nsIn K mainGlobals "_law_spoiled"=some (some (.ref fSP)))
 (lSP:K.lookup fSP=some ⟨ocSP,odSP, .func (PySem.W.fnOf "_law_spoiled" "_law_spoiled" (aK sSpo) (aB sSpo) (af sSpo) .none kVSP dcSP pmSP anSP cdSP ctSP),slSP⟩)
 (cSP:PySem.W.codeIn K cdSP "_law_spoiled"=true)
 (kSP:PySem.W.keepIn K (.ref fSP)=true)
 (aLF:PySem.W.nsIn K mainGlobals "_law_figures"=some (some (.ref fLF)))
 (lLF:K.lookup fLF=some ⟨ocLF,odLF, .func (PySem.W.fnOf "_law_figures" "_law_figures" (aK gj) (aB gj) (af gj) .none kVLF dcLF pmLF anLF cdLF ctLF),slLF⟩)
 (cLF:PySem.W.codeIn K cdLF "_law_figures"=true)
 (kLF:PySem.W.keepIn K (.ref fLF)=true)
 (aLR:PySem.W.nsIn K mainGlobals "_law_fraction"=some (some (.ref fLR)))
 (lLR:K.lookup fLR=some ⟨ocLR,odLR, .func (PySem.W.fnOf "_law_fraction" "_law_fraction" (aK sLFr) (aB sLFr) (af sLFr) .none kVLR dcLR pmLR anLR cdLR ctLR),slLR⟩)
 (cLR:PySem.W.codeIn K cdLR "_law_fraction"=true)
 (kLR:PySem.W.keepIn K (.ref fLR)=true)
 (aLN:PySem.W.nsIn K mainGlobals "_law_is_name"=some (some (.ref fLN)))
 (lLN:K.lookup fLN=some ⟨ocLN,odLN, .func (PySem.W.fnOf "_law_is_name" "_law_is_name" (aK sLNm) (aB sLNm) (af sLNm) .none kVLN dcLN pmLN anLN cdLN ctLN),slLN⟩)
 (cLN:PySem.W.codeIn K cdLN "_law_is_name"=true)
 (kLN:PySem.W.keepIn K (.ref fLN)=true)
 (aLI:PySem.W.nsIn K mainGlobals "_law_line"=some (some (.ref fLI)))
 (lLI:K.lookup fLI=some ⟨ocLI,odLI, .func (PySem.W.fnOf "_law_line" "_law_line" (aK gi) (aB gi) (af gi) .none kVLI dcLI pmLI anLI cdLI ctLI),slLI⟩)
 (cLI:PySem.W.codeIn K cdLI "_law_line"=true)
 (kLI:PySem.W.keepIn K (.ref fLI)=true)
 (aDU:PySem.W.nsIn K mainGlobals "_law_due"=some (some (.ref fDU)))
 (lDU:K.lookup fDU=some ⟨ocDU,odDU, .func (PySem.W.fnOf "_law_due" "_law_due" (aK sDue) (aB sDue) (af sDue) .none kVDU dcDU pmDU anDU cdDU ctDU),slDU⟩)
 (cDU:PySem.W.codeIn K cdDU "_law_due"=true)
 (kDU:PySem.W.keepIn K (.ref fDU)=true)
 (aRF:PySem.W.nsIn K mainGlobals "_law_refusal"=some (some (.ref fRF)))
 (lRF:K.lookup fRF=some ⟨ocRF,odRF, .func (PySem.W.fnOf "_law_refusal" "_law_refusal" (aK gg) (aB gg) (af gg) .none kVRF dcRF pmRF anRF cdRF ctRF),slRF⟩)
 (cRF:PySem.W.codeIn K cdRF "_law_refusal"=true)
 (kRF:PySem.W.keepIn K (.ref fRF)=true)
 (aAK:PySem.W.nsIn K mainGlobals "_law_asked"=some (some (.ref fAK)))
 (lAK:K.lookup fAK=some ⟨ocAK,odAK, .func (PySem.W.fnOf "_law_asked" "_law_asked" (aK sAsk) (aB sAsk) (af sAsk) .none kVAK dcAK pmAK anAK cdAK ctAK),slAK⟩)
 (cAK:PySem.W.codeIn K cdAK "_law_asked"=true)
 (kAK:PySem.W.keepIn K (.ref fAK)=true)
 (aLA:PySem.W.nsIn K mainGlobals "law"=some (some (.ref fLA)))
 (lLA:K.lookup fLA=some ⟨ocLA,odLA, .func (PySem.W.fnOf "law" "law" (aK sLaw) (aB sLaw) (af sLaw) .none kVLA dcLA pmLA anLA cdLA ctLA),slLA⟩)
 (cLA:PySem.W.codeIn K cdLA "law"=true)
 (kLA:PySem.W.keepIn K (.ref fLA)=true)
 (aML:PySem.W.nsIn K mainGlobals "MOST_LETTERS"=some (some (.int 8 tk1)))
 (aMC:PySem.W.nsIn K mainGlobals "MOST_IN_CALL"=some (some (.int 3 tk2)))
 (aP:PySem.W.nsIn K mainGlobals "PIECE"=some (some (.int 64 tp)))
 (aPW:PySem.W.nsIn K mainGlobals "PIECE_WORTH"=some (some (.int pw tw)))
 (acL:PySem.W.nsIn K mainGlobals "NoLevel"=some (some (.ref cL)))
 (acW:PySem.W.nsIn K mainGlobals "NoWish"=some (some (.ref cW)))
 (acA:PySem.W.nsIn K mainGlobals "NoAnswer"=some (some (.ref cA)))
 (acN:PySem.W.nsIn K mainGlobals "NoLine"=some (some (.ref cN)))
 (ac1:PySem.W.nsIn K mainGlobals "BadStep"=some (some (.ref c1)))
 (ac2:PySem.W.nsIn K mainGlobals "NoPaper"=some (some (.ref c2)))
 (ac3:PySem.W.nsIn K mainGlobals "NoShare"=some (some (.ref c3)))
 (ac4:PySem.W.nsIn K mainGlobals "NoStep"=some (some (.ref c4)))
 (kC:PySem.W.keepIn K (.ref C)=true)
 (lC:K.lookup C=some (excClassObj nm qn C Nn bs bm hdct sn sub ab col dd k0 k1 k2 k3 k5 "ValueError.__new__"))
 (sW:PySem.W.subIn K (.ref W) (.type "BaseException")=some true)
 (dW:PySem.W.isClsIn K W=true)
 (tW:PySem.W.typeIn K (.ref W)=some (.type "type"))
 (dC:PySem.W.isClsIn K C=true)
 (tC:PySem.W.typeIn K (.ref C)=some (.type "type"))
 (dcL:PySem.W.isClsIn K cL=true)
 (tcL:PySem.W.typeIn K (.ref cL)=some (.type "type"))
 (dcW:PySem.W.isClsIn K cW=true)
 (tcW:PySem.W.typeIn K (.ref cW)=some (.type "type"))
 (dcA:PySem.W.isClsIn K cA=true)
 (tcA:PySem.W.typeIn K (.ref cA)=some (.type "type"))
 (dcN:PySem.W.isClsIn K cN=true)
 (tcN:PySem.W.typeIn K (.ref cN)=some (.type "type"))
 (dc1:PySem.W.isClsIn K c1=true)
 (tc1:PySem.W.typeIn K (.ref c1)=some (.type "type"))
 (dc2:PySem.W.isClsIn K c2=true)
 (tc2:PySem.W.typeIn K (.ref c2)=some (.type "type"))
 (dc3:PySem.W.isClsIn K c3=true)
 (tc3:PySem.W.typeIn K (.ref c3)=some (.type "type"))
 (dc4:PySem.W.isClsIn K c4=true)
 (tc4:PySem.W.typeIn K (.ref c4)=some (.type "type"))
 (gC:PySem.W.findIn K (.ref C) "__getattribute__"=some (some (.builtin "BaseException.__getattribute__")))
 (hgC:PySem.W.findIn K (.ref C) "__getattr__"=some none)
 (oC:PySem.W.findIn K (.ref C) "__class__"=some (some (.builtin "object.__class__")))
 (moC:PySem.W.mroIn K C (.type "object")=some true)
 (mbC:PySem.W.mroIn K C (.type "BaseException")=some true)
 (swC:PySem.W.subIn K (.ref C) (.ref W)=some true)
 (svC:PySem.W.subIn K (.ref C) (.type "ValueError")=some true)
 (saC:PySem.W.findIn K (.ref C) "__setattr__"=some (some (.builtin "object.__setattr__")))
 (tkC:PySem.W.takerIn K C "at"=some none)
 (naC:PySem.W.findIn K (.ref C) "at"=some none)
 (spW:PySem.W.specialIn K (.ref W) "__getattribute__"=some (some (.builtin "type.__getattribute__")))
 (rdW:PySem.W.readsIn K W (.type "type")=true)
 (fcW:PySem.W.findCls K (.ref W) (.type "type") "__init__"=some (.val (.ref fWI)))
 (sCcL:PySem.W.subIn K (.ref C) (.ref cL)=some false)
 (sCcW:PySem.W.subIn K (.ref C) (.ref cW)=some false)
 (sCcA:PySem.W.subIn K (.ref C) (.ref cA)=some false)
 (sCcN:PySem.W.subIn K (.ref C) (.ref cN)=some false)
 (sCc1:PySem.W.subIn K (.ref C) (.ref c1)=some false)
 (sCc2:PySem.W.subIn K (.ref C) (.ref c2)=some false)
 (sCc3:PySem.W.subIn K (.ref C) (.ref c3)=some false)
 (sCc4:PySem.W.subIn K (.ref C) (.ref c4)=some false)
 (z_abs:PySem.W.nsIn K mainGlobals "abs"=some none)
 (z_len:PySem.W.nsIn K mainGlobals "len"=some none)
 (z_range:PySem.W.nsIn K mainGlobals "range"=some none)
 (z_isinstance:PySem.W.nsIn K mainGlobals "isinstance"=some none)
 (z_tuple:PySem.W.nsIn K mainGlobals "tuple"=some none)
 (z_int:PySem.W.nsIn K mainGlobals "int"=some none)
 (z_bool:PySem.W.nsIn K mainGlobals "bool"=some none)
 (z_list:PySem.W.nsIn K mainGlobals "list"=some none)
 (z_str:PySem.W.nsIn K mainGlobals "str"=some none)
 (z_all:PySem.W.nsIn K mainGlobals "all"=some none)
 (z_any:PySem.W.nsIn K mainGlobals "any"=some none)
 (z_sum:PySem.W.nsIn K mainGlobals "sum"=some none)
 (z_zip:PySem.W.nsIn K mainGlobals "zip"=some none)
 (z_sorted:PySem.W.nsIn K mainGlobals "sorted"=some none)
 (z_ValueError:PySem.W.nsIn K mainGlobals "ValueError"=some none)
 (z_enumerate:PySem.W.nsIn K mainGlobals "enumerate"=some none)
 (z_reversed:PySem.W.nsIn K mainGlobals "reversed"=some none)
 (ln:Line "ValueError" bm)
 (epw:pw=((PW:Nat):Int))
 (ov:cR (.ref C::bm)=true)
 (hdt:hdct=true)
 (nCcL:(Value.ref C==Value.ref cL)=false)
 (nCcW:(Value.ref C==Value.ref cW)=false)
 (nCcA:(Value.ref C==Value.ref cA)=false)
 (nCcN:(Value.ref C==Value.ref cN)=false)
 (nCc1:(Value.ref C==Value.ref c1)=false)
 (nCc2:(Value.ref C==Value.ref c2)=false)
 (nCc3:(Value.ref C==Value.ref c3)=false)
 (nCc4:(Value.ref C==Value.ref c4)=false):
 ∃fd:FuncData,(∀(s:Shared) (v:Value),BindsTo s fd ⟨[v],[]⟩ [("_law_script",v)])∧∀base:Heap,K.In base→base.Ns mainGlobals mg→FnOk l.prog w K mg base CX0 8 fa fd ["_law_script"] (jW K):=by
 have e:=hfa.symm.trans (PySem.W.mg_of X G aLA)
 cases e
 subst epw
 have B:Blt mg:=⟨PySem.W.mg_none_of X G z_abs,PySem.W.mg_none_of X G z_len,PySem.W.mg_none_of X G z_range,PySem.W.mg_none_of X G z_isinstance,PySem.W.mg_none_of X G z_tuple,PySem.W.mg_none_of X G z_int,PySem.W.mg_none_of X G z_bool,PySem.W.mg_none_of X G z_list,PySem.W.mg_none_of X G z_str,PySem.W.mg_none_of X G z_all,PySem.W.mg_none_of X G z_any,PySem.W.mg_none_of X G z_sum,PySem.W.mg_none_of X G z_zip,PySem.W.mg_none_of X G z_sorted,PySem.W.mg_none_of X G z_ValueError,PySem.W.mg_none_of X G z_enumerate,PySem.W.mg_none_of X G z_reversed⟩
 have FWI:=b7 (st:=gk) lWI cWI kWI
 have bWI:=FWI.binds (ps:= ["self","words"]) fun _ _ _ _ _ _ us hl=>by obtain ⟨_,_,rfl⟩:=ex2 us hl;rfl
 have FNT:=b7 (st:=sNTi) lNT cNT kNT
 have bNT:=FNT.binds (ps:= ["self","at"]) fun _ _ _ _ _ _ us hl=>by obtain ⟨_,_,rfl⟩:=ex2 us hl;rfl
 have FCD:=b7 (st:=sCd) lCD cCD kCD
 have bCD:=FCD.binds (ps:= ["one","other"]) fun _ _ _ _ _ _ us hl=>by obtain ⟨_,_,rfl⟩:=ex2 us hl;rfl
 have mCD:=PySem.W.mg_of X G aCD
 have FFR:=b7 (st:=sFr) lFR cFR kFR
 have bFR:=FFR.binds (ps:= ["top","bottom"]) fun _ _ _ _ _ _ us hl=>by obtain ⟨_,_,rfl⟩:=ex2 us hl;rfl
 have mFR:=PySem.W.mg_of X G aFR
 have FFG:=b7 (st:=sFg) lFG cFG kFG
 have bFG:=FFG.binds (ps:= ["number"]) fun _ _ _ _ _ _ us hl=>by obtain ⟨_,rfl⟩:=ex1 us hl;rfl
 have mFG:=PySem.W.mg_of X G aFG
 have FAF:=b7 (st:=sAf) lAF cAF kAF
 have bAF:=FAF.binds (ps:= ["text"]) fun _ _ _ _ _ _ us hl=>by obtain ⟨_,rfl⟩:=ex1 us hl;rfl
 have mAF:=PySem.W.mg_of X G aAF
 have FNO:=b7 (st:=sNo) lNO cNO kNO
 have bNO:=FNO.binds (ps:= ["figures"]) fun _ _ _ _ _ _ us hl=>by obtain ⟨_,rfl⟩:=ex1 us hl;rfl
 have mNO:=PySem.W.mg_of X G aNO
 have FFT:=b7 (st:=sFt) lFT cFT kFT
 have bFT:=FFT.binds (ps:= ["one"]) fun _ _ _ _ _ _ us hl=>by obtain ⟨_,rfl⟩:=ex1 us hl;rfl
 have mFT:=PySem.W.mg_of X G aFT
 have FFI:=b7 (st:=sFi) lFI cFI kFI
 have bFI:=FFI.binds (ps:= ["text"]) fun _ _ _ _ _ _ us hl=>by obtain ⟨_,rfl⟩:=ex1 us hl;rfl
 have mFI:=PySem.W.mg_of X G aFI
 have FNQ:=b7 (st:=sNmQ) lNQ cNQ kNQ
 have bNQ:=FNQ.binds (ps:= ["thing"]) fun _ _ _ _ _ _ us hl=>by obtain ⟨_,rfl⟩:=ex1 us hl;rfl
 have mNQ:=PySem.W.mg_of X G aNQ
 have FRW:=b7 (st:=sRdw) lRW cRW kRW
 have bRW:=FRW.binds (ps:= ["lines"]) fun _ _ _ _ _ _ us hl=>by obtain ⟨_,rfl⟩:=ex1 us hl;rfl
 have mRW:=PySem.W.mg_of X G aRW
 have FEN:=b7 (st:=sEnt) lEN cEN kEN
 have bEN:=FEN.binds (ps:= ["words"]) fun _ _ _ _ _ _ us hl=>by obtain ⟨_,rfl⟩:=ex1 us hl;rfl
 have mEN:=PySem.W.mg_of X G aEN
 have FDR:=b7 (st:=gm) lDR cDR kDR
 have bDR:=FDR.binds (ps:= ["_law_script","_law_k","_law_many"]) fun _ _ _ _ _ _ us hl=>by obtain ⟨_,_,_,rfl⟩:=ex3 us hl;rfl
 have mDR:=PySem.W.mg_of X G aDR
 have FMD:=b7 (st:=gh) lMD cMD kMD
 have bMD:=FMD.binds (ps:= ["_law_script"]) fun _ _ _ _ _ _ us hl=>by obtain ⟨_,rfl⟩:=ex1 us hl;rfl
 have mMD:=PySem.W.mg_of X G aMD
 have FSP:=b7 (st:=sSpo) lSP cSP kSP
 have bSP:=FSP.binds (ps:= ["_law_script","_law_k","_law_lines"]) fun _ _ _ _ _ _ us hl=>by obtain ⟨_,_,_,rfl⟩:=ex3 us hl;rfl
 have mSP:=PySem.W.mg_of X G aSP
 have FLF:=b7 (st:=gj) lLF cLF kLF
 have bLF:=FLF.binds (ps:= ["_law_word"]) fun _ _ _ _ _ _ us hl=>by obtain ⟨_,rfl⟩:=ex1 us hl;rfl
 have mLF:=PySem.W.mg_of X G aLF
 have FLR:=b7 (st:=sLFr) lLR cLR kLR
 have bLR:=FLR.binds (ps:= ["_law_word"]) fun _ _ _ _ _ _ us hl=>by obtain ⟨_,rfl⟩:=ex1 us hl;rfl
 have mLR:=PySem.W.mg_of X G aLR
 have FLN:=b7 (st:=sLNm) lLN cLN kLN
 have bLN:=FLN.binds (ps:= ["_law_word"]) fun _ _ _ _ _ _ us hl=>by obtain ⟨_,rfl⟩:=ex1 us hl;rfl
 have mLN:=PySem.W.mg_of X G aLN
 have FLI:=b7 (st:=gi) lLI cLI kLI
 have bLI:=FLI.binds (ps:= ["_law_line_here"]) fun _ _ _ _ _ _ us hl=>by obtain ⟨_,rfl⟩:=ex1 us hl;rfl
 have mLI:=PySem.W.mg_of X G aLI
 have FDU:=b7 (st:=sDue) lDU cDU kDU
 have bDU:=FDU.binds (ps:= ["_law_lines"]) fun _ _ _ _ _ _ us hl=>by obtain ⟨_,rfl⟩:=ex1 us hl;rfl
 have mDU:=PySem.W.mg_of X G aDU
 have FRF:=b7 (st:=gg) lRF cRF kRF
 have bRF:=FRF.binds (ps:= ["_law_caught"]) fun _ _ _ _ _ _ us hl=>by obtain ⟨_,rfl⟩:=ex1 us hl;rfl
 have mRF:=PySem.W.mg_of X G aRF
 have FAK:=b7 (st:=sAsk) lAK cAK kAK
 have bAK:=FAK.binds (ps:= ["_law_lines"]) fun _ _ _ _ _ _ us hl=>by obtain ⟨_,rfl⟩:=ex1 us hl;rfl
 have mAK:=PySem.W.mg_of X G aAK
 have FLA:=b7 (st:=sLaw) lLA cLA kLA
 have mP:=PySem.W.mg_of X G aP
 have mPW:=PySem.W.mg_of X G aPW
 have plC:=og lC ov hdt
 have XC:XCls K C fNT:=⟨⟨_,_,_,_,_,_,_,_,_,_,_,_,_,_,_,_,lC,ln⟩,iC,fnC,kC⟩
 have NT:Nt K mg C fNT W fWI:=⟨PySem.W.mg_of X G aC,PySem.W.mg_of X G aW,XC,⟨dC,gC,hgC,oC,moC,mbC⟩,⟨saC,plC,tkC⟩,⟨spW,_,rdW,fcW⟩,naC,uP sW dW tW swC⟩
 have LC:Cs K mg C cL cW cA cN c1 c2 c3 c4:=⟨PySem.W.mg_of X G acL,PySem.W.mg_of X G acW,PySem.W.mg_of X G acA,PySem.W.mg_of X G acN,PySem.W.mg_of X G ac1,PySem.W.mg_of X G ac2,PySem.W.mg_of X G ac3,PySem.W.mg_of X G ac4,tF svC,(cg nCcL dcL tcL sCcL),(cg nCcW dcW tcW sCcW),(cg nCcA dcA tcA sCcA),(cg nCcN dcN tcN sCcN),oS (cg nCc1 dc1 tc1 sCc1) (cg nCc2 dc2 tc2 sCc2) (cg nCc3 dc3 tc3 sCc3) (cg nCc4 dc4 tc4 sCc4)⟩
 refine ⟨PySem.W.fnOf "law" "law" (aK sLaw) (aB sLaw) (af sLaw) .none kVLA dcLA pmLA anLA cdLA ctLA,fun s v=> .of_eq rfl,fun base _ _=> ?_⟩
 have gFR:FnOk l.prog w K mg base CX0 3 fFR _ ["top","bottom"] spFr:=uz FFR FCD bCD mCD B
 have gFG:FnOk l.prog w K mg base CX0 1 fFG _ ["number"] spFg:=uB FFG B mP mPW
 have gFT:FnOk l.prog w K mg base CX0 2 fFT _ ["one"] (spFt K):=uy FFT B gFG kFG bFG mFG
 have gAF:FnOk l.prog w K mg base CX0 1 fAF _ ["text"] spAf:=uD FAF
 have gNO:FnOk l.prog w K mg base CX0 1 fNO _ ["figures"] spNo:=ux FNO B mP mPW
 have gFI:FnOk l.prog w K mg base CX0 4 fFI _ ["text"] spFi:=uA FFI B gAF kAF bAF mAF gNO kNO bNO mNO gFR kFR bFR mFR gFT kFT bFT mFT
 have gNQ:FnOk l.prog w K mg base CX0 1 fNQ _ ["thing"] spNq:=uw FNQ B (PySem.W.mg_of X G aML)
 have gEN:FnOk l.prog w K mg base CX0 5 fEN _ ["words"] nR:=t5 FEN B (PySem.W.mg_of X G aMC) gNQ kNQ bNQ mNQ gFI kFI bFI mFI
 have gWI:FnOk l.prog w K mg base CX0 1 fWI _ ["self","words"] (jq K):=qC FWI B
 have gNT:FnOk l.prog w K mg base CX0 2 fNT _ ["self","at"] (spNt C):=uv FNT NT gWI kWI bWI
 have gRW:FnOk l.prog w K mg base (CXF l.prog w) 6 fRW _ ["lines"] (nK l.prog w K C):=sY FRW B NT gNT bNT gEN kEN bEN mEN
 have gRF:FnOk l.prog w K mg base CX0 1 fRF _ ["_law_caught"] (jn C):=qz FRF B NT LC
 have gAK:FnOk l.prog w K mg base CX0 7 fAK _ ["_law_lines"] (eX l.prog w K):=t7 FAK NT gRW kRW bRW mRW gRF kRF bRF mRF
 have gDR:FnOk l.prog w K mg base CX0 1 fDR _ ["_law_script","_law_k","_law_many"] (eY K):=qD FDR B
 have gMD:FnOk l.prog w K mg base CX0 2 fMD _ ["_law_script"] (jo K):=qA FMD B gDR kDR bDR mDR
 have gSP:FnOk l.prog w K mg base CX0 2 fSP _ ["_law_script","_law_k","_law_lines"] (nJ K):=sX FSP B gDR kDR bDR mDR
 have gLF:FnOk l.prog w K mg base CX0 1 fLF _ ["_law_word"] spLF:=uG FLF
 have gLR:FnOk l.prog w K mg base CX0 2 fLR _ ["_law_word"] nP:=uE FLR B gLF kLF bLF mLF
 have gLN:FnOk l.prog w K mg base CX0 1 fLN _ ["_law_word"] spLN:=uF FLN B
 have gLI:FnOk l.prog w K mg base CX0 3 fLI _ ["_law_line_here"] jp:=qB FLI B gLN kLN bLN mLN gLR kLR bLR mLR
 have gDU:FnOk l.prog w K mg base CX0 4 fDU _ ["_law_lines"] (eX l.prog w K):=t6 FDU B gLI kLI bLI mLI
 exact sZ FLA B gDR kDR bDR mDR gMD kMD bMD mMD gSP kSP bSP mSP (rV gDU) kDU bDU mDU (rV gAK) kAK bAK mAK
theorem walk {l:PySem.W.OpenLaw} {q:Program} {loose:List Str} {XP:(Str→Option Value)→Heap→Prop} {YP:World→Heap→Prop} {d:DefRec} {K:Params→PySem.W.Frag} (hn:l.most=some 63) (hdf:d.params.defaults= [])
 (hY:∀(w:World) (h:Heap),YP w h→(K w.params).In h)
 (F:∀(w:World) (mg:Str→Option Value) (fa:Addr) (h:Heap),(K w.params).In h→h.Ns mainGlobals mg→mg d.name=some (.ref fa)→
  ∃fd:FuncData,(∀(s:Shared) (u:Value),BindsTo s fd ⟨[u],[]⟩ [("_law_script",u)])∧∀base:Heap,(K w.params).In base→base.Ns mainGlobals mg→FnOk l.prog w (K w.params) mg base CX0 8 fa fd ["_law_script"] (jW (K w.params))):
 PySem.W.WalkO q loose XP YP l.row.toRowW d [] (fun f vs=>PySem.call f vs):=
 L2.walk_of (n:=63) (k:=8) (x:="_law_script") (CX:=fun _=>CX0) (sp:=fun w=>jW (K w.params)) hn (by decide) hdf ⟨rfl,by decide,by decide,rfl⟩ hY F (fun _ _ a ns hl _ hS=>⟨a,ns,rfl,hS,hl,fun _=>rfl⟩) fun _ _ _ _ _ z=>z
end K85
def PySem.W.Fast.tw17003611812605185167:Unit:=()
def PySem.W.Fast.tw7408655840244606387:Unit:=()
def PySem.W.Fast.tw99968168982988618:Unit:=()
def PySem.W.Fast.tw15280563230565644175:Unit:=()
def PySem.W.Fast.tw12954613525165521079:Unit:=()
def PySem.W.Fast.tw6187697885008878:Unit:=()
def PySem.W.Fast.tw14936550517156912259:Unit:=()
def PySem.W.Fast.tw15632614597206205277:Unit:=()
def PySem.W.Fast.tw8748456187854368808:Unit:=()
def PySem.W.Fast.tw4432435691103082019:Unit:=()
def PySem.W.Fast.tw2158919393671218367:Unit:=()
def PySem.W.Fast.tw2812768415647781029:Unit:=()
def PySem.W.Fast.tw9291208159518905431:Unit:=()
def PySem.W.Fast.tw16681143334271903567:Unit:=()
def PySem.W.Fast.tw11863704948207706278:Unit:=()
def PySem.W.Fast.tw10742730262224313180:Unit:=()
def PySem.W.Fast.tw3023835993493019376:Unit:=()
def PySem.W.Fast.tw17648585318182935195:Unit:=()
def PySem.W.Fast.tw13075947228938557106:Unit:=()
def PySem.W.Fast.tw17853156817119859714:Unit:=()
def PySem.W.Fast.tw11166130567295955194:Unit:=()
def PySem.W.Fast.tw8685546251642371042:Unit:=()
def PySem.W.Fast.tw6461167224405139354:Unit:=()
def PySem.W.Fast.tw12833957047533563464:Unit:=()
def PySem.W.Fast.tw8634143758675765073:Unit:=()
def PySem.W.Fast.tw11112842856399654347:Unit:=()
def PySem.W.Fast.tw14612860075693186273:Unit:=()
def PySem.W.Fast.tw13328412808324557635:Unit:=()
def PySem.W.Fast.tw10904327430675504779:Unit:=()
def PySem.W.Fast.tw9331849679714714281:Unit:=()
def PySem.W.Fast.tw9804368210571621926:Unit:=()
def PySem.W.Fast.tw10262357972963935900:Unit:=()
def PySem.W.Fast.tw7629473639634087066:Unit:=()
def PySem.W.Fast.tw8377511834690087130:Unit:=()
def PySem.W.Fast.tw1003166079234803883:Unit:=()
def PySem.W.Fast.tw10281691310518968718:Unit:=()
open PySem PySem.W PyProof.Rows
set_option maxRecDepth 100000 in
set_option maxHeartbeats 0 in
theorem PySem.Challenge.cw_smallword_k85_lines_refused_holds : PySem.Challenge.rw_smallword_k85_lines_refused.Holds := by
  w_on; o_law; k_head; (case hw => w_witness2)
  k_fill
  refine K85.walk (l := PySem.Challenge.rw_smallword_k85_lines_refused) rfl rfl (fun w h Y => PySem.W.kIn_of Y) ?F
  case F =>
    intro w mg fa h KX G hmg
    refine' K85.all_mk KX G hmg ?aC ?aW ?iC ?iW ?lNT ?cNT ?kNT ?lWI ?cWI ?kWI ?fnC ?aCD ?lCD ?cCD ?kCD ?aFR ?lFR ?cFR ?kFR ?aFG ?lFG ?cFG ?kFG ?aAF ?lAF ?cAF ?kAF ?aNO ?lNO ?cNO ?kNO ?aFT ?lFT ?cFT ?kFT ?aFI ?lFI ?cFI ?kFI ?aNQ ?lNQ ?cNQ ?kNQ ?aRW ?lRW ?cRW ?kRW ?aEN ?lEN ?cEN ?kEN ?aDR ?lDR ?cDR ?kDR ?aMD ?lMD ?cMD ?kMD ?aSP ?lSP ?cSP ?kSP ?aLF ?lLF ?cLF ?kLF ?aLR ?lLR ?cLR ?kLR ?aLN ?lLN ?cLN ?kLN ?aLI ?lLI ?cLI ?kLI ?aDU ?lDU ?cDU ?kDU ?aRF ?lRF ?cRF ?kRF ?aAK ?lAK ?cAK ?kAK ?aLA ?lLA ?cLA ?kLA ?aML ?aMC ?aP ?aPW ?acL ?acW ?acA ?acN ?ac1 ?ac2 ?ac3 ?ac4 ?kC ?lC ?sW ?dW ?tW ?dC ?tC ?dcL ?tcL ?dcW ?tcW ?dcA ?tcA ?dcN ?tcN ?dc1 ?tc1 ?dc2 ?tc2 ?dc3 ?tc3 ?dc4 ?tc4 ?gC ?hgC ?oC ?moC ?mbC ?swC ?svC ?saC ?tkC ?naC ?spW ?rdW ?fcW ?sCcL ?sCcW ?sCcA ?sCcN ?sCc1 ?sCc2 ?sCc3 ?sCc4 ?z_abs ?z_len ?z_range ?z_isinstance ?z_tuple ?z_int ?z_bool ?z_list ?z_str ?z_all ?z_any ?z_sum ?z_zip ?z_sorted ?z_ValueError ?z_enumerate ?z_reversed ?ln ?epw ?ov ?hdt ?nCcL ?nCcW ?nCcA ?nCcN ?nCc1 ?nCc2 ?nCc3 ?nCc4
    (case aC => k_is); (case aW => k_is); (case iC => k_is); (case iW => k_is); (case lNT => k_is); (case cNT => k_is); (case kNT => k_is); (case lWI => k_is)
    (case cWI => k_is); (case kWI => k_is); (case fnC => k_is); (case aCD => k_is); (case lCD => k_is); (case cCD => k_is); (case kCD => k_is); (case aFR => k_is)
    (case lFR => k_is); (case cFR => k_is); (case kFR => k_is); (case aFG => k_is); (case lFG => k_is); (case cFG => k_is); (case kFG => k_is); (case aAF => k_is)
    (case lAF => k_is); (case cAF => k_is); (case kAF => k_is); (case aNO => k_is); (case lNO => k_is); (case cNO => k_is); (case kNO => k_is); (case aFT => k_is)
    (case lFT => k_is); (case cFT => k_is); (case kFT => k_is); (case aFI => k_is); (case lFI => k_is); (case cFI => k_is); (case kFI => k_is); (case aNQ => k_is)
    (case lNQ => k_is); (case cNQ => k_is); (case kNQ => k_is); (case aRW => k_is); (case lRW => k_is); (case cRW => k_is); (case kRW => k_is); (case aEN => k_is)
    (case lEN => k_is); (case cEN => k_is); (case kEN => k_is); (case aDR => k_is); (case lDR => k_is); (case cDR => k_is); (case kDR => k_is); (case aMD => k_is)
    (case lMD => k_is); (case cMD => k_is); (case kMD => k_is); (case aSP => k_is); (case lSP => k_is); (case cSP => k_is); (case kSP => k_is); (case aLF => k_is)
    (case lLF => k_is); (case cLF => k_is); (case kLF => k_is); (case aLR => k_is); (case lLR => k_is); (case cLR => k_is); (case kLR => k_is); (case aLN => k_is)
    (case lLN => k_is); (case cLN => k_is); (case kLN => k_is); (case aLI => k_is); (case lLI => k_is); (case cLI => k_is); (case kLI => k_is); (case aDU => k_is)
    (case lDU => k_is); (case cDU => k_is); (case kDU => k_is); (case aRF => k_is); (case lRF => k_is); (case cRF => k_is); (case kRF => k_is); (case aAK => k_is)
    (case lAK => k_is); (case cAK => k_is); (case kAK => k_is); (case aLA => k_is); (case lLA => k_is); (case cLA => k_is); (case kLA => k_is); (case aML => k_is)
    (case aMC => k_is); (case aP => k_is); (case aPW => k_is); (case acL => k_is); (case acW => k_is); (case acA => k_is); (case acN => k_is); (case ac1 => k_is)
    (case ac2 => k_is); (case ac3 => k_is); (case ac4 => k_is); (case kC => k_is); (case lC => k_is); (case sW => k_is); (case dW => k_is); (case tW => k_is)
    (case dC => k_is); (case tC => k_is); (case dcL => k_is); (case tcL => k_is); (case dcW => k_is); (case tcW => k_is); (case dcA => k_is); (case tcA => k_is)
    (case dcN => k_is); (case tcN => k_is); (case dc1 => k_is); (case tc1 => k_is); (case dc2 => k_is); (case tc2 => k_is); (case dc3 => k_is); (case tc3 => k_is)
    (case dc4 => k_is); (case tc4 => k_is); (case gC => k_is); (case hgC => k_is); (case oC => k_is); (case moC => k_is); (case mbC => k_is); (case swC => k_is)
    (case svC => k_is); (case saC => k_is); (case tkC => k_is); (case naC => k_is); (case spW => k_is); (case rdW => k_is); (case fcW => k_is); (case sCcL => k_is)
    (case sCcW => k_is); (case sCcA => k_is); (case sCcN => k_is); (case sCc1 => k_is); (case sCc2 => k_is); (case sCc3 => k_is); (case sCc4 => k_is); (case z_abs => k_is)
    (case z_len => k_is); (case z_range => k_is); (case z_isinstance => k_is); (case z_tuple => k_is); (case z_int => k_is); (case z_bool => k_is); (case z_list => k_is); (case z_str => k_is)
    (case z_all => k_is); (case z_any => k_is); (case z_sum => k_is); (case z_zip => k_is); (case z_sorted => k_is); (case z_ValueError => k_is); (case z_enumerate => k_is); (case z_reversed => k_is)
    (case ln => exact ⟨by decide, by decide, by decide, by decide⟩)
    (case epw => decide +kernel)
    (case ov => decide)
    (case hdt => rfl)
    (case nCcL => decide)
    (case nCcW => decide)
    (case nCcA => decide)
    (case nCcN => decide)
    (case nCc1 => decide)
    (case nCc2 => decide)
    (case nCc3 => decide)
    (case nCc4 => decide)
