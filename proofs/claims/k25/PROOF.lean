import PyProof.Rows.All
import Wide.All
import OpenK.AllK
import Wide.FinOn
import Lean
import PyProof.EqAt
import PyProof.EqKinds
import PyProof.TupleCall
import KE.KSortTup
import PyProof.NeKinds
import PyProof.DictRoadsH
import PyProof.ZipIter
import KE.LcSums
import KE.KListMore
import KE.KIntText
import KE.KRevIter
import PyProof.Rows.Range3
import PyProof.NsDelKeeps
import PyProof.WalksEnum
import PyProof.EnumMake
import PyProof.Rows.EnumRows
import PyProof.DictCompW
import KE.KDictList
import PyProof.Rows.SortKeyStr
import PyProof.Rows.SortWalk
import KE.KDictLaws
import PyProof.StrLawsTight
import PyProof.SetKind
import PyProof.Rows.SetFrom
import PyProof.SetRoads
import PyProof.DictWalks
import PyProof.CollectWalk
import PyProof.ListRange
import PyProof.Rows.SortShell
import PyProof.Rows.IntBool
import PySem.Challenge.RW_smallword_k25_sum_steps
set_option Elab.async false
set_option linter.all false
set_option maxRecDepth 100000
set_option maxHeartbeats 8000000
namespace Zz
def yW:=@List.length_map
def yX:=@List.getElem?_eq_getElem
def yY:=@List.mem_cons_self
def yZ:=@Nat.le_refl
def z5:=@List.size_toArray
def z6:=@List.mem_cons_of_mem
def z7:=@List.mem_of_getElem?
def z9:=@List.length_append
def zc:=@List.mem_cons
def zd:=@List.getElem?_eq_some_iff
def ze:=@List.mem_singleton
def zf:=@List.mem_append
def zg:=@Nat.ne_of_lt
def zh:=@List.map_append
def zj:=@Bool.false_ne_true
def zk:=@Array.length_toList
def zl:=@Nat.lt_of_lt_of_le
def zm:=@List.length_take
def zo:=@List.map_cons
def zp:=@List.mem_append_right
def zq:=@Nat.lt_of_le_of_lt
def zr:=@Int.gcd_pos_of_ne_zero_right
def zu:=@Option.some.inj
def zv:=@List.not_mem_nil
def zw:=@List.length_cons
def zx:=@List.mem_map
def zy:=@Bool.false_eq_true
def zF:=@List.getElem?_map
def zG:=@Nat.zero_le
def zH:=@Option.map_eq_some_iff
def zI:=@List.length_drop
def zJ:=@Nat.le_trans
def zK:=@List.getD_eq_getElem?_getD
def zL:=@List.take_length
def zM:=@Nat.add_le_add_left
def zN:=@List.mem_range
def zO:=@List.length_singleton
def zP:=@Array.getElem?_toList
def zQ:=@List.take_zero
def zR:=@List.lookup_cons
def zS:=@Bool.and_eq_true
def zT:=@Nat.mul_le_mul_right
def zU:=@List.nodup_cons
def zV:=@List.getElem?_append_left
def zW:=@Array.getElem?_eq_getElem
def zX:=@List.getElem_of_mem
def zY:=@Array.getD_eq_getD_getElem?
def zZ:=@List.mem_append_left
def A0:=@List.append_nil
def A1:=@List.take_append_drop
def A2:=@List.eq_nil_of_length_eq_zero
def A3:=@Int.gcd_comm
def A4:=@List.dropLast_concat_getLast
def A5:=@List.getElem?_append_right
def A6:=@Int.fdiv_eq_ediv_of_nonneg
def A7:=@Int.ediv_pos_of_pos_of_dvd
def A8:=@Nat.le_add_right
def A9:=@List.zip_cons_cons
def Aa:=@List.pairwise_cons
def Ab:=@Int.emod_lt_of_pos
def Ac:=@List.pairwise_append
def Ad:=@List.cons.injEq
def Ae:=@Nat.lt_irrefl
def Af:=@List.any_eq_true
def Ag:=@List.all_eq_true
def Ah:=@List.mem_filterMap
def Ai:=@List.length_replicate
def Aj:=@Int.emod_nonneg
def Ak:=@Bool.eq_iff_iff
def Al:=@Nat.lt_succ_of_lt
def Am:=@Int.gcd_dvd_right
end Zz
open Zz
namespace L2
open PySem PySem.Spec PyProof.Rows
abbrev Key:=Sum Int Str
noncomputable def gk:Key→Value→Bool
 | .inl k,v=>Value.isInt k v
 | .inr x,v=>Value.isStrOf x v
noncomputable def keyH (w:World):Key→Int
 | .inl k=>hashInt k
 | .inr x=>hashStr w x
theorem aO:∀ {k:Key} {v:Value},gk k v=true→(∃i t,k=Sum.inl i∧v=Value.int i t)∨(∃x t,k=Sum.inr x∧v=Value.str x t)
 | .inl i,v,h=>by
  obtain ⟨t,e⟩:=Value.isInt_shape (k:=i) (v:=v) h
  exact .inl ⟨i,t,rfl,e⟩
 | .inr x,v,h=>by
  obtain ⟨t,e⟩:=Value.isStrOf_shape (x:=x) (v:=v) h
  exact .inr ⟨x,t,rfl,e⟩
theorem qL (i:Int) (t:Tok):gk (.inl i) (.int i t)=true:=by simp [gk,Value.isInt]
theorem qK (x:Str) (t:Tok):gk (.inr x) (.str x t)=true:=by simp [gk,Value.isStrOf]
theorem xQ (a b:Int):decide ((Sum.inl a:Key)=Sum.inl b)=(a==b):=by
 by_cases e:a=b
 · subst e;simp
 · have h:¬(Sum.inl a:Key)=Sum.inl b:=fun q=>e (Sum.inl.inj q)
   rw [decide_eq_false h]
   exact (beq_eq_false_iff_ne.mpr e).symm
theorem xN (a b:Str):decide ((Sum.inr a:Key)=Sum.inr b)=decide (a=b):=by
 by_cases e:a=b
 · subst e;simp
 · have h:¬(Sum.inr a:Key)=Sum.inr b:=fun q=>e (Sum.inr.inj q)
   rw [decide_eq_false h,decide_eq_false e]
theorem xP (a:Int) (b:Str):decide ((Sum.inl a:Key)=Sum.inr b)=false:=decide_eq_false (fun q=>nomatch q)
theorem xO (a:Str) (b:Int):decide ((Sum.inr a:Key)=Sum.inl b)=false:=decide_eq_false (fun q=>nomatch q)
noncomputable def dh (prog:Program) (w:World):PySem.KeyKind prog w Key where
 is:=gk
 hash:=keyH w
 inj:=fun v a b ha hb=>by
  rcases aO ha with ⟨i,t,rfl,rfl⟩|⟨x,t,rfl,rfl⟩
  · rcases aO hb with ⟨j,u,rfl,e⟩|⟨y,u,rfl,e⟩
    · injection e with e1 _;rw [e1]
    · exact nomatch e
  · rcases aO hb with ⟨j,u,rfl,e⟩|⟨y,u,rfl,e⟩
    · exact nomatch e
    · injection e with e1 _;rw [e1]
 byValue:=fun k v h=>by
  rcases aO h with ⟨i,t,rfl,rfl⟩|⟨x,t,rfl,rfl⟩<;>rfl
 pyHash:=fun hv h=>by
  rcases aO hv with ⟨i,t,rfl,rfl⟩|⟨x,t,rfl,rfl⟩
  · exact wpAny_pyHash_int h
  · exact wpAny_pyHash_str h
 eqBool:=fun hu hv h=>by
  rcases aO hu with ⟨i,t,rfl,rfl⟩|⟨x,t,rfl,rfl⟩
  · rcases aO hv with ⟨j,u,rfl,rfl⟩|⟨y,u,rfl,rfl⟩
    · rw [xQ] at h;exact wpAny_eqBool_int h
    · rw [xP] at h;exact SeqAt.EqAt.int_str i t y u _ _ _ _ h
  · rcases aO hv with ⟨j,u,rfl,rfl⟩|⟨y,u,rfl,rfl⟩
    · rw [xO] at h;exact SeqAt.EqAt.str_int x t j u _ _ _ _ h
    · rw [xN] at h;exact wpAny_eqBool_str h
 «strs»:=fun k x t v h=>by
  rcases aO h with ⟨i,u,rfl,e⟩|⟨y,u,rfl,e⟩
  · exact nomatch e
  · injection e with e1 _
    subst e1
    cases v<;>rfl
open PySem PySem.Spec PyProof.Rows
inductive V where
 |non|bl (b:Bool)|int (i:Int)|str (x:Str)|byt (b:Array UInt8)|flt (b:UInt64)|ref (a:Addr)|ty (n:String)
 deriving DecidableEq
def RelV:V→Value→Prop
 | .non,u=>u=Value.none
 | .bl b,u=>u=Value.bool b
 | .int i,u=>∃t,u=Value.int i t
 | .str x,u=>∃t,u=Value.str x t
 | .byt b,u=>∃t,u=Value.bytes b t
 | .flt b,u=>∃t,u=Value.float b t
 | .ref a,u=>u=Value.ref a
 | .ty n,u=>u=Value.type n
abbrev Vals:List V→List Value→Prop:=Paired RelV
theorem Vals.length {xs:List V} {us:List Value} (r:Vals xs us):xs.length=us.length:=Paired.length r
theorem Vals.get:∀ {xs:List V} {us:List Value} {i:Nat} {x:V},Vals xs us→xs[i]?=some x→∃u,us[i]?=some u∧RelV x u
 |_,_,_,_, .nil,e=>by simp at e
 |_,_,0,_, .cons r _,e=>by simp at e;subst e;exact ⟨_,rfl,r⟩
 |_,_,i+1,x, .cons _ t,e=>by
  obtain ⟨u,h1,h2⟩:=Vals.get (i:=i) (x:=x) t (by simpa using e)
  exact ⟨u,by simpa using h1,h2⟩
theorem Vals.set {x:V} {u:Value} (r:RelV x u):∀ {xs:List V} {us:List Value} (i:Nat),Vals xs us→Vals (xs.set i x) (us.set i u)
 |_,_,_, .nil=> .nil
 |_,_,0, .cons _ t=> .cons r t
 |_,_,i+1, .cons q t=> .cons q (Vals.set r i t)
theorem Vals.append:∀ {xs ys:List V} {us ws:List Value},Vals xs us→Vals ys ws→Vals (xs++ys) (us++ws)
 |_,_,_,_, .nil,s=>s
 |_,_,_,_, .cons r t,s=> .cons r (Vals.append t s)
theorem Vals.take:∀ {xs:List V} {us:List Value} (n:Nat),Vals xs us→Vals (xs.take n) (us.take n)
 |_,_,0,_=> .nil
 |_,_,_+1, .nil=> .nil
 |_,_,n+1, .cons r t=> .cons r (Vals.take n t)
theorem Vals.drop:∀ {xs:List V} {us:List Value} (n:Nat),Vals xs us→Vals (xs.drop n) (us.drop n)
 |_,_,0,r=>r
 |_,_,_+1, .nil=> .nil
 |_,_,n+1, .cons _ t=>Vals.drop n t
def RelO:Option V→Option Value→Prop
 |some v,some u=>RelV v u
 |none,none=>True
 |_,_=>False
def KV {κ:Type}:List (κ×V)→List (κ×Value)→Prop:=Paired fun (p:κ×V) (q:κ×Value)=>p.1=q.1∧RelV p.2 q.2
def kV:Key→V
 | .inl i=> .int i
 | .inr x=> .str x
inductive HO where
 |lst (xs:List V)
 |tup (xs:List V)
 |dK (kvs:List (Key×V))|dT (kvs:List (List Key×V))
 |set (S:Int→Bool) (n:Nat)
 |ins (C dx:Addr) (fs:List (Str×V))
 |own (x:Addr)
 |xd (fs:List (Str×V))
 |met (f x:Addr)
 |rng (lo hi:Int)
 |frz (o:Obj) (u:HO)
 |tbl (ps:Array Value)
 |ext (φ:Heap→Prop)
abbrev Hp:=Addr→Option HO
noncomputable def upd (H:Hp) (a:Addr) (o:HO):Hp:=fun b=>if b=a then some o else H b
theorem aa {H:Hp} {a:Addr} {o:HO}:upd H a o a=some o:=by unfold upd;rw [if_pos rfl]
theorem aG {H:Hp} {a b:Addr} {o:HO} (h:b≠a):upd H a o b=H b:=by unfold upd;rw [if_neg h]
theorem aQ {H:Hp} {a b:Addr} {o:HO} (h:H a=some o) (h':H b=none):a≠b:=by
 intro e;subst e;rw [h] at h';cases h'
section
variable (P:Program) (w:World)
def ObjOk (H:Hp) (h:Heap) (a:Addr):HO→Prop
 | .lst xs=>xs.length≤sizeLine∧∃(its:List Value) (n:Nat),Vals xs its∧h.get? a=some {cls:= .type "list",data:= .seq its.toArray n}
 | .tup xs=>xs.length≤sizeLine∧∃its:List Value,Vals xs its∧IsTup h a its.toArray
 | .dK kvs=>kvs.length≤sizeLine∧(a==sysModules)=false∧∃vs,KV kvs vs∧h.DictOf (dh P w) a vs
 | .dT kvs=>kvs.length≤sizeLine∧(a==sysModules)=false∧∃xs:List (List Key×Addr×Value),
  Paired (fun (p:List Key×V) (q:List Key×Addr×Value)=>p.1=q.1∧H q.2.1=some (.tup (p.1.map kV))∧RelV p.2 q.2.2) kvs xs∧
  ∃o es ep,h.get? a=some o∧o.ExactDict∧o.data= .dict es ep∧es.toList=xs.map (entryOfKey (tupleKind (dh P w)))∧(xs.map (·.1)).Nodup
 | .set S n=>h.SetOf (intKind P w) a S n
 | .ins C dx fs=>H dx=some (.own a)∧fs.length≤1000∧dx≠a∧h.get? a=some (PySem.W.instObj C dx)∧
  ∃mA,h.Ns1 dx mA∧(∀f,RelO (fs.lookup f) (mA f))∧PySem.Within mA (fs.map (·.1))
 | .own _=>∃o,h.get? a=some o
 | .xd fs=>∃mA,h.Ns1 a mA∧∀f,RelO (fs.lookup f) (mA f)
 | .rng lo hi=>∃t u v,h.get? a=some {cls:= .type "range",data:= .fields #[.int lo t, .int hi u, .int 1 v]}
 | .frz o u=>h.get? a=some o∧ObjOk H h a u
 | .tbl ps=>h.get? a=some {cls:= .none,data:= .fields ps}
 | .met f x=>h.get? a=some (PySem.W.methodObj (.ref f) (.ref x))
 | .ext φ=>φ h∧(∃o,h.get? a=some o)∧∀h1 h2:Heap,φ h1→(∀o,h1.get? a=some o→h2.get? a=some o)→φ h2
def HOk (H:Hp) (h:Heap):Prop:=∀a o,H a=some o→ObjOk P w H h a o
end
section
variable {P:Program} {w:World} {H H':Hp} {h h':Heap} {a:Addr} {o:HO}
theorem ObjOk.lt (x:ObjOk P w H h a o):a < h.objs.size:=by
 cases o with
 |lst xs=>obtain ⟨_,_,_,_,e⟩:=x;exact Heap.lt_size e
 |tup xs=>obtain ⟨_,_,_,p⟩:=x;exact p.lt
 |dK kvs=>obtain ⟨_,_,_,_,o,_,_,e,_⟩:=x;exact Heap.lt_size e
 |dT kvs=>obtain ⟨_,_,_,_,o,_,_,e,_⟩:=x;exact Heap.lt_size e
 |set S n=>obtain ⟨o,_,_,_,e,_⟩:=x;exact Heap.lt_size e
 |ins C dx fs=>obtain ⟨_,_,_,e,_⟩:=x;exact Heap.lt_size e
 |own y=>obtain ⟨_,e⟩:=x;exact Heap.lt_size e
 |xd fs=>obtain ⟨_,⟨_,_,_,e,_⟩,_⟩:=x;exact Heap.lt_size e
 |rng lo hi=>obtain ⟨_,_,_,e⟩:=x;exact Heap.lt_size e
 |frz ob u=>obtain ⟨e,_⟩:=x;exact Heap.lt_size e
 |tbl ps=>exact Heap.lt_size (show h.get? a=some _ from x)
 |met f y=>exact Heap.lt_size (show h.get? a=some _ from x)
 |ext φ=>obtain ⟨_,⟨_,e⟩,_⟩:=x;exact Heap.lt_size e
theorem Paired.mapP {α β:Type} {F G:α→β→Prop}:∀ {l₁:List α} {l₂:List β},Paired F l₁ l₂→(∀a b,F a b→G a b)→Paired G l₁ l₂
 |_,_, .nil,_=> .nil
 |_,_, .cons r t,f=> .cons (f _ _ r) (Paired.mapP t f)
theorem ObjOk.stay (x:ObjOk P w H h a o) (k:∀b u,(b=a∨H b=some (.own a))→h.get? b=some u→h'.get? b=some u)
 (ho:∀b,H b=some (.own a)→H' b=some (.own a)) (ht:∀b xs,H b=some (.tup xs)→H' b=some (.tup xs)):ObjOk P w H' h' a o:=by
 induction o with
 |lst xs=>obtain ⟨z,its,n,r,e⟩:=x;exact ⟨z,its,n,r,k _ _ (.inl rfl) e⟩
 |tup xs=>obtain ⟨z,its,r,ob,e,c⟩:=x;exact ⟨z,its,r,ob,k _ _ (.inl rfl) e,c⟩
 |dK kvs=>obtain ⟨z,y,vs,r,ob,es,ep,e,c⟩:=x;exact ⟨z,y,vs,r,ob,es,ep,k _ _ (.inl rfl) e,c⟩
 |dT kvs=>
  obtain ⟨z,y,xs,r,ob,es,ep,e,c⟩:=x
  exact ⟨z,y,xs,Paired.mapP r fun p q z=>⟨z.1,ht _ _ z.2.1,z.2.2⟩,ob,es,ep,k _ _ (.inl rfl) e,c⟩
 |set S n=>obtain ⟨ob,es,ep,t,e,c⟩:=x;exact ⟨ob,es,ep,t,k _ _ (.inl rfl) e,c⟩
 |ins C dx fs=>
  obtain ⟨d,z,ne,e,mA,⟨od,es,ep,e2,c⟩,r⟩:=x
  exact ⟨ho _ d,z,ne,k _ _ (.inl rfl) e,mA,⟨od,es,ep,k _ _ (.inr d) e2,c⟩,r⟩
 |own y=>obtain ⟨ob,e⟩:=x;exact ⟨ob,k _ _ (.inl rfl) e⟩
 |xd fs=>obtain ⟨mA,⟨od,es,ep,e,c⟩,r⟩:=x;exact ⟨mA,⟨od,es,ep,k _ _ (.inl rfl) e,c⟩,r⟩
 |rng lo hi=>obtain ⟨t,u,v,e⟩:=x;exact ⟨t,u,v,k _ _ (.inl rfl) e⟩
 |frz ob u ih=>obtain ⟨e,q⟩:=x;exact ⟨k _ _ (.inl rfl) e,ih q⟩
 |tbl ps=>
  have e:h.get? a=some {cls:= .none,data:= .fields ps}:=x
  show h'.get? a=some {cls:= .none,data:= .fields ps}
  exact k a _ (.inl rfl) e
 |met f y=>
  have e:h.get? a=some (PySem.W.methodObj (.ref f) (.ref y)):=x
  show h'.get? a=some (PySem.W.methodObj (.ref f) (.ref y))
  exact k a _ (.inl rfl) e
 |ext φ=>obtain ⟨p,⟨o,e⟩,st⟩:=x;exact ⟨st _ _ p fun o q=>k _ _ (.inl rfl) q,⟨o,k _ _ (.inl rfl) e⟩,st⟩
theorem HOk.lt (x:HOk P w H h) (e:H a=some o):a < h.objs.size:=(x a o e).lt
theorem HOk.fresh (x:HOk P w H h) (e:h.objs.size≤a):H a=none:=by
 cases q:H a with
 |none=>rfl
 |some u=>exact absurd (zl (x.lt q) e) (Ae _)
theorem HOk.kept (x:HOk P w H h) (k:∀b u,h.get? b=some u→h'.get? b=some u):HOk P w H h':=fun a o e=>
 (x a o e).stay (fun b u _ q=>k b u q) (fun _ q=>q) fun _ _ q=>q
theorem HOk.laid (x:HOk P w H h) (k:∀b u,h.get? b=some u→h'.get? b=some u) (hp:h.objs.size≤a) (new:ObjOk P w (upd H a o) h' a o):HOk P w (upd H a o) h':=fun b u e=>by
 have hn:=x.fresh hp
 by_cases hb:b=a
 · subst hb;rw [aa] at e;cases e;exact new
 · rw [aG hb] at e
   exact (x b u e).stay (fun c v _ q=>k c v q) (fun c q=>by rw [aG (aQ q hn)];exact q) fun c xs q=>by rw [aG (aQ q hn)];exact q
end
def Rd (H:Hp) (a:Addr) (u:HO):Prop:=H a=some u∨∃o,H a=some (.frz o u)
theorem Rd.ok {P:Program} {w:World} {H:Hp} {h:Heap} {a:Addr} {u:HO} (r:Rd H a u) (x:HOk P w H h):ObjOk P w H h a u:=by
 rcases r with r|⟨o,r⟩
 · exact x a u r
 · obtain ⟨_,q⟩:=x a _ r
   exact q
def Mut:Option HO→Prop
 |some (.lst _)=>True
 |some (.dK _)=>True
 |some (.dT _)=>True
 |some (.set _ _)=>True
 |some (.ins _ _ _)=>True
 |some (.ext _)=>True
 |_=>False
section
variable {P:Program} {w:World} {H:Hp} {h h':Heap} {x e:Addr} {o':HO}
theorem HOk.write (ok:HOk P w H h) (mu:Mut (H x)) (he:e=x∨H e=some (.own x)) (k:∀b u,b≠e→h.get? b=some u→h'.get? b=some u) (heo:∃u,h'.get? e=some u)
 (new:ObjOk P w (upd H x o') h' x o'):HOk P w (upd H x o') h':=fun b u q=>by
 have nown:∀c y,H c=some (.own y)→c≠x:=fun c y r z=>by subst z;rw [r] at mu;exact mu
 have ntup:∀c xs,H c=some (.tup xs)→c≠x:=fun c xs r z=>by subst z;rw [r] at mu;exact mu
 by_cases hb:b=x
 · subst hb;rw [aa] at q;cases q;exact new
 · rw [aG hb] at q
   by_cases hbe:b=e
   · have q':H b=some (.own x):=by
      rcases he with z|z
      · exact absurd (hbe.trans z) hb
      · rw [hbe];exact z
     rw [q] at q';cases q'
     obtain ⟨v,hv⟩:=heo
     exact ⟨v,by rw [hbe];exact hv⟩
   · refine (ok b u q).stay (fun c v hc r=>k c v ?_ r) (fun c r=>by rw [aG (nown c b r)];exact r) fun c xs r=>by rw [aG (ntup c xs r)];exact r
     rcases hc with rfl|hc
     · exact hbe
     · rintro rfl
       rcases he with z|z
       · exact nown c b hc z
       · rw [hc] at z;cases z;exact hb rfl
end
def Idl (x:Option HO):Prop:=x=none∨∃xs,x=some (.tup xs)
theorem Idl.no {x:Option HO} (h:x=none):Idl x:= .inl h
structure Un (fs ex:List Addr) (H H':Hp) (h h':Heap):Prop where
 keep:∀b o,h.get? b=some o→Idl (H b)→b∉fs→b∉ex→h'.get? b=some o
 slot:∀b o,h.get? b=some o→H b=none→b∈fs→b∉ex→∃sl,h'.get? b=some {o with slots:=sl}
 free:∀b o,h.get? b=some o→H b=none→b∉ex→H' b=none
 there:∀b o,h.get? b=some o→b∉ex→∃o',h'.get? b=some o'
 tups:∀b xs,H b=some (.tup xs)→H' b=some (.tup xs)
 frzs:∀b o u,H b=some (.frz o u)→H' b=some (.frz o u)
 tbls:∀b ps,H b=some (.tbl ps)→∃more,H' b=some (.tbl (ps++more))
section
variable {fs fs' ex ex':List Addr} {H H1 H2:Hp} {h h1 h2 h':Heap} {a x e:Addr} {o:HO}
theorem Un.any (u:Un fs ex H H1 h h1) {b:Addr} {ob:Obj} (q:h.get? b=some ob) (n:H b=none) (hx:b∉ex):∃sl,h1.get? b=some {ob with slots:=sl}:=by
 by_cases hb:b∈fs
 · exact u.slot b ob q n hb hx
 · exact ⟨ob.slots,u.keep b ob q (.inl n) hb hx⟩
theorem Un.idl (u:Un fs ex H H1 h h1) {b:Addr} {ob:Obj} (q:h.get? b=some ob) (n:Idl (H b)) (hx:b∉ex):Idl (H1 b):=by
 rcases n with n|⟨xs,n⟩
 · exact .inl (u.free b ob q n hx)
 · exact .inr ⟨xs,u.tups b xs n⟩
theorem Un.trans (a:Un fs ex H H1 h h1) (b:Un fs ex H1 H2 h1 h2):Un fs ex H H2 h h2 where
 keep:=fun c ob q n hc hx=>b.keep c ob (a.keep c ob q n hc hx) (a.idl q n hx) hc hx
 slot:=fun c ob q n hc hx=>by
  obtain ⟨sl,e1⟩:=a.slot c ob q n hc hx
  obtain ⟨sl',e2⟩:=b.slot c _ e1 (a.free c ob q n hx) hc hx
  exact ⟨sl',e2⟩
 free:=fun c ob q n hx=>by
  obtain ⟨o',e1⟩:=a.there c ob q hx
  exact b.free c o' e1 (a.free c ob q n hx) hx
 there:=fun c ob q hx=>by
  obtain ⟨o',e1⟩:=a.there c ob q hx
  exact b.there c o' e1 hx
 tups:=fun c xs q=>b.tups c xs (a.tups c xs q)
 frzs:=fun c ob xs q=>b.frzs c ob xs (a.frzs c ob xs q)
 tbls:=fun c ps q=>by
  obtain ⟨m1,e1⟩:=a.tbls c ps q
  obtain ⟨m2,e2⟩:=b.tbls c _ e1
  exact ⟨m1++m2,by rw [e2,Array.append_assoc]⟩
theorem Un.kept (k:∀b u,h.get? b=some u→h'.get? b=some u):Un fs ex H H h h':=
 ⟨fun b ob q _ _ _=>k b ob q,fun b ob q _ _ _=>⟨ob.slots,k b ob q⟩,fun _ _ _ n _=>n,fun b ob q _=>⟨ob,k b ob q⟩,fun _ _ q=>q,fun _ _ _ q=>q,fun _ ps q=>⟨#[],by rw [q];simp⟩⟩
theorem Un.refl:Un fs ex H H h h:=Un.kept fun _ _ q=>q
theorem Un.laid (k:∀b u,h.get? b=some u→h'.get? b=some u) (hp:h.objs.size≤a) (hn:H a=none):Un fs ex H (upd H a o) h h' where
 keep:=fun b u q _ _ _=>k b u q
 slot:=fun b u q _ _ _=>⟨u.slots,k b u q⟩
 free:=fun b u q n _=>by rw [aG (zg (zl (Heap.lt_size q) hp))];exact n
 there:=fun b u q _=>⟨u,k b u q⟩
 tups:=fun b xs q=>by rw [aG (aQ q hn)];exact q
 frzs:=fun b u xs q=>by rw [aG (aQ q hn)];exact q
 tbls:=fun b ps q=>⟨#[],by rw [aG (aQ q hn),q];simp⟩
theorem Un.write (mu:Mut (H x)) (he:e=x∨H e=some (.own x)) (k:∀b u,b≠e→h.get? b=some u→h'.get? b=some u) (heo:∃u,h'.get? e=some u):Un fs ex H (upd H x o) h h':=by
 have hx:∀b,H b=none→b≠x:=fun b n z=>by subst z;rw [n] at mu;exact mu
 have hb:∀b,H b=none→b≠e:=fun b n z=>by
  subst z
  rcases he with r|r
  · exact hx b n r
  · rw [n] at r;cases r
 have hi:∀b,Idl (H b)→b≠e:=fun b n z=>by
  rcases n with n|⟨xs,n⟩
  · exact hb b n z
  · subst z
    rcases he with r|r
    · subst r
      rw [n] at mu
      exact mu
    · rw [n] at r;cases r
 have hm:∀b u,H b=some u→¬Mut (some u)→b≠x:=fun b u q nm z=>by subst z;rw [q] at mu;exact nm mu
 refine ⟨fun b u q n _ _=>k b u (hi b n) q,fun b u q n _ _=>⟨u.slots,k b u (hb b n) q⟩,fun b u q n _=>by rw [aG (hx b n)];exact n,fun b u q _=> ?_,
  fun b xs q=>by rw [aG (hm b _ q fun z=>z)];exact q,fun b u xs q=>by rw [aG (hm b _ q fun z=>z)];exact q,fun b ps q=>⟨#[],by rw [aG (hm b _ q fun z=>z),q];simp⟩⟩
 by_cases hbe:b=e
 · subst hbe;exact heo
 · exact ⟨u,k b u hbe q⟩
end
noncomputable def trk (h:Heap) (H:Hp):List Addr:=(List.range h.objs.size).filter fun a=>(H a).isSome
noncomputable def hidT (h:Heap) (H:Hp):Heap:=PySem.W.hideAll h (trk h H)
theorem qM (h:Heap) (H:Hp):(hidT h H).objs.size=h.objs.size:=PySem.W.hideAll_size _ _
theorem ub {h:Heap} {H:Hp} {b:Addr} {o:Obj} (e:h.get? b=some o) (n:H b=none):(hidT h H).get? b=some o:=
 PySem.W.hideAll_get _ e fun hm=>by
  have q:(H b).isSome=true:=(List.mem_filter.mp hm).2
  rw [n] at q;simp at q
theorem pB {h:Heap} {H:Hp} {b:Addr} {o:Obj} (e:(hidT h H).get? b=some o):h.get? b=some o∧H b=none:=by
 have e':h.get? b=some o:=PySem.W.of_hideAll (trk h H) e
 refine ⟨e',?_⟩
 cases q:H b with
 |none=>rfl
 |some x=>
  have hm:b∈trk h H:=List.mem_filter.mpr ⟨zN.mpr (Heap.lt_size e'),by simp [q]⟩
  have z:(hidT h H).get? b=none:=PySem.W.hideAll_none (trk h H) hm
  rw [z] at e;cases e
open PySem PySem.Spec PyProof.Rows
structure Mod (K:PySem.W.Frag) (mg:Str→Option Value) (base:Heap):Prop where
 kin:K.In base
 glob:base.Ns mainGlobals mg
 blt:∃mb,base.Ns builtinsNs mb∧∀x:Str,x≠"__name__"→mb x=bootBuiltins x
 nolimit:base.NoLimit
structure Cx where
 prog:Program
 w:World
 K:PySem.W.Frag
 mg:Str→Option Value
 base:Heap
 A:Around
 N:List Str
 s₀:Shared
 H₀:Hp
 env:Env
 outer:List Env
 stack:List Env
 ex:List Addr
 fn:Str→Bool
 calm:Bool
 pn:List (Addr×Obj)
 xe:Value→Shared→Prop
def frs (l:List Env):List Addr:=l.filterMap (·.frame)
abbrev Cx.fs (X:Cx):List Addr:=frs X.outer
def Vis (sc:Scope) (x:Str):Prop:=sc.names.lookup x=some .local∨sc.names.lookup x=some .cell∨sc.names.lookup x=some .free
def Loc (sc:Scope) (x:Str):Prop:=sc.names.lookup x=some .local∨sc.names.lookup x=some .cell
def Look (env:Env) (h:Heap) (m:Str→Option Value) (x:Str) (u:Value):Prop:=
 (env.kindOf x=some .local∧m x=some u)∨((env.kindOf x=some .cell∨env.kindOf x=some .free)∧∃c,env.cells.lookup x=some c∧h.IsCell c (some u))
structure Cx.Ok (X:Cx):Prop where
 mod:Mod X.K X.mg X.base
 kind:X.env.scope.kind= .function
 glob:X.env.globals=mainGlobals
 blt:X.env.builtins=builtinsNs
 above:X.s₀.heap.objs.size≤X.env.locals
 inj:∀x y c,X.env.cells.lookup x=some c→X.env.cells.lookup y=some c→x=y
 has:∀x,(X.env.kindOf x=some .cell∨X.env.kindOf x=some .free)→∃c,X.env.cells.lookup x=some c
 cab:∀x c,X.fn x=true→X.env.cells.lookup x=some c→X.s₀.heap.objs.size≤c
 hd:X.calm=true→X.A.handled=none
 frames:X.A.frames=some X.stack
 stk:X.stack=X.outer∨(X.stack=X.env::X.outer∧X.env.frame=some X.env.locals)
 exf:∀b∈X.ex,b≠X.env.locals∧∀x c,X.env.cells.lookup x=some c→c≠b
 bs:∀b o,X.base.get? b=some o→X.s₀.heap.get? b=some o∧Idl (X.H₀ b)
 bsz:X.base.objs.size≤X.s₀.heap.objs.size
 noex:∀b o,X.base.get? b=some o→b∉X.ex
 exfs:∀b∈X.ex,b∉X.fs
 funs:X.s₀.heap.FunFrames X.base X.outer
 frf:∀b∈X.fs,X.H₀ b=none
structure Inv (X:Cx) (pins:List (Addr×Obj)) (σ:List (Option V)) (H:Hp) (s:Shared):Prop where
 ok:X.Ok
 os:s.os=X.s₀.os
 bare:AllBare s.gens
 base:Un X.fs X.ex X.H₀ H X.s₀.heap s.heap
 loc:∃m,s.heap.Ns X.env.locals m∧∀(i:Nat) (x:Str) (v:V),X.N[i]?=some x→σ[i]?=some (some v)→Vis X.env.scope x→∃u,RelV v u∧Look X.env s.heap m x u
 cell:∀x c,X.env.cells.lookup x=some c→∃v,s.heap.IsCell c v
 free:H X.env.locals=none
 freeC:∀x c,X.env.cells.lookup x=some c→H c=none
 pin:∀p∈X.pn++pins,s.heap.get? p.1=some p.2∧H p.1=none∧p.1≠X.env.locals∧p.1∉X.fs∧∀v,p.2.data≠ .cell v
 hok:HOk X.prog X.w H s.heap
 len:σ.length=X.N.length
section
variable {X:Cx} {pins:List (Addr×Obj)} {σ:List (Option V)} {H H':Hp} {s:Shared} {h':Heap}
theorem Cx.Ok.nofr (ok:X.Ok) {b:Addr} {o:Obj} (e:X.base.get? b=some o):b∉X.fs:=fun hb=>by
 have:=(ok.funs.mem hb).1
 rw [e] at this;cases this
theorem Inv.bs (I:Inv X pins σ H s):∀b o,X.base.get? b=some o→s.heap.get? b=some o∧Idl (H b):=fun b o e=>
 ⟨I.base.keep b o (I.ok.bs b o e).1 (I.ok.bs b o e).2 (I.ok.nofr e) (I.ok.noex b o e),I.base.idl (I.ok.bs b o e).1 (I.ok.bs b o e).2 (I.ok.noex b o e)⟩
theorem Inv.bk (I:Inv X pins σ H s):∀b o,X.base.get? b=some o→s.heap.get? b=some o:=fun b o e=>(I.bs b o e).1
theorem Inv.mod (I:Inv X pins σ H s):Mod X.K X.mg X.base:=I.ok.mod
theorem Inv.kIn (I:Inv X pins σ H s):X.K.In s.heap:=I.ok.mod.kin.keeps I.bk
theorem Inv.nolimit (I:Inv X pins σ H s):s.heap.NoLimit:=I.ok.mod.nolimit.keeps I.bk
theorem Inv.fr (I:Inv X pins σ H s):∃m,Fr X.base X.env.locals s.heap m:=
 let ⟨m,hn,_⟩:=I.loc
 ⟨m,hn,I.bk,zJ I.ok.bsz I.ok.above⟩
theorem Inv.lt (I:Inv X pins σ H s):X.env.locals < s.heap.objs.size:=let ⟨_,hn,_⟩:=I.loc;hn.lt
theorem Inv.sz (I:Inv X pins σ H s):X.s₀.heap.objs.size≤s.heap.objs.size:=zJ I.ok.above (Nat.le_of_lt I.lt)
theorem Inv.nofs (I:Inv X pins σ H s) {a:Addr} (h:s.heap.objs.size≤a):a∉X.fs:=fun hb=>by
 obtain ⟨_,o,ho,_⟩:=I.ok.funs.mem hb
 exact absurd (zl (Heap.lt_size ho) (zJ I.sz h)) (Ae _)
theorem Inv.cne (I:Inv X pins σ H s):∀x c,X.env.cells.lookup x=some c→c≠X.env.locals:=fun x c e z=>by
 obtain ⟨v,o,ho,hd⟩:=I.cell x c e
 obtain ⟨m,⟨o',es,ep,ho',hd',_⟩,_⟩:=I.loc
 rw [z,ho'] at ho;cases ho;rw [hd'] at hd;cases hd
theorem Inv.funs (I:Inv X pins σ H s):s.heap.FunFrames X.base X.outer:=by
 have all:∀(l:List Env),(∀b∈frs l,b∈X.fs)→X.s₀.heap.FunFrames X.base l→s.heap.FunFrames X.base l:=by
  intro l
  induction l with
  |nil=>intro _ _;trivial
  |cons env r ih=>
   intro hs hl
   obtain ⟨hk,⟨L,o,hf,hn,ho,hd⟩,hr⟩:=hl
   have hL:L∈X.fs:=hs L (by unfold frs;rw [List.filterMap_cons,hf];exact yY)
   obtain ⟨sl,e⟩:=I.base.slot L o ho (I.ok.frf L hL) hL fun z=>I.ok.exfs L z hL
   exact ⟨hk,⟨L,_,hf,hn,e,hd⟩,ih (fun b hb=>hs b (by unfold frs;rw [List.filterMap_cons,hf];exact z6 _ hb)) hr⟩
 exact all X.outer (fun _ hb=>hb) I.ok.funs
theorem Inv.stack (I:Inv X pins σ H s):s.heap.FunFrames X.base X.stack:=by
 rcases I.ok.stk with e|⟨e,hf⟩
 · rw [e];exact I.funs
 · rw [e]
   obtain ⟨m,hn,_⟩:=I.loc
   refine .cons (by rw [I.ok.kind];decide) hf hn ?_ I.funs
   exact Heap.get?_none_of_le (zJ I.ok.bsz I.ok.above)
theorem Inv.stkSub (I:Inv X pins σ H s):∀b∈frs X.stack,b∈X.env.locals::X.fs:=fun b hb=>by
 rcases I.ok.stk with e|⟨e,hf⟩
 · rw [e] at hb;exact z6 _ hb
 · rw [e] at hb
   unfold frs at hb
   rw [List.filterMap_cons,hf] at hb
   exact hb
theorem Inv.stkFree (I:Inv X pins σ H s):∀b∈frs X.stack,H b=none:=fun b hb=>by
 rcases zc.mp (I.stkSub b hb) with e|hb
 · rw [e];exact I.free
 · obtain ⟨_,o,ho,_⟩:=I.ok.funs.mem hb
   exact I.base.free b o ho (I.ok.frf b hb) fun z=>I.ok.exfs b z hb
theorem Inv.step {g':Array GenState} {t':Nat} {d':Drawn} {ch:List Addr} (I:Inv X pins σ H s)
 (hch:∀b∈ch,(b∈X.ex∨X.s₀.heap.objs.size≤b)∧b≠X.env.locals∧(∀x c,X.env.cells.lookup x=some c→c≠b)∧∀p∈X.pn++pins,p.1≠b)
 (keep:∀b o,b≠X.env.locals→b∉X.fs→b∉ch→s.heap.get? b=some o→Idl (H b)→h'.get? b=some o)
 (slot:∀b o,b≠X.env.locals→b∈X.fs→b∉ch→s.heap.get? b=some o→H b=none→∃sl,h'.get? b=some {o with slots:=sl}) (free:∀b o,b∉ch→s.heap.get? b=some o→H b=none→H' b=none)
 (there:∀b o,b∉ch→s.heap.get? b=some o→∃o',h'.get? b=some o')
 (tups:∀b xs,H b=some (.tup xs)→H' b=some (.tup xs)) (frzs:∀b o u,H b=some (.frz o u)→H' b=some (.frz o u)) (tbls:∀b ps,H b=some (.tbl ps)→∃more,H' b=some (.tbl (ps++more)))
 (ns:∀m,s.heap.Ns X.env.locals m→h'.Ns X.env.locals m) (hok:HOk X.prog X.w H' h') (hg:AllBare g'):
 Inv X pins σ H' {s with heap:=h',gens:=g',drawn:=d',toks:=t'}:=by
 have neL:∀b o,X.s₀.heap.get? b=some o→b≠X.env.locals:=fun b o e=>zg (zl (Heap.lt_size e) I.ok.above)
 have neC:∀b o,X.s₀.heap.get? b=some o→b∉X.ex→b∉ch:=fun b o e hx hb=>by
  rcases (hch b hb).1 with z|z
  · exact hx z
  · exact absurd (zl (Heap.lt_size e) z) (Ae _)
 have cellK:∀x c,X.env.cells.lookup x=some c→∀v,s.heap.IsCell c v→h'.IsCell c v:=fun x c e v ⟨o,ho,hd⟩=>by
  have nch:c∉ch:=fun z=>(hch c z).2.2.1 x c e rfl
  by_cases hc:c∈X.fs
  · obtain ⟨sl,q⟩:=slot c o (I.cne x c e) hc nch ho (I.freeC x c e)
    exact ⟨_,q,hd⟩
  · exact ⟨o,keep c o (I.cne x c e) hc nch ho (.inl (I.freeC x c e)),hd⟩
 refine ⟨I.ok,I.os,hg,⟨fun b o e n hb hx=> ?_,fun b o e n hb hx=> ?_,fun b o e n hx=> ?_,fun b o e hx=> ?_,fun b xs e=>tups b xs (I.base.tups b xs e),fun b o xs e=>frzs b o xs (I.base.frzs b o xs e),fun b ps e=> ?_⟩,?_,fun x c e=> ?_,?_,fun x c e=> ?_,fun p hp=> ?_,hok,I.len⟩
 · exact keep b o (neL b o e) hb (neC b o e hx) (I.base.keep b o e n hb hx) (I.base.idl e n hx)
 · obtain ⟨sl,e1⟩:=I.base.slot b o e n hb hx
   obtain ⟨sl',e2⟩:=slot b _ (neL b o e) hb (neC b o e hx) e1 (I.base.free b o e n hx)
   exact ⟨sl',e2⟩
 · obtain ⟨o',e1⟩:=I.base.there b o e hx
   exact free b o' (neC b o e hx) e1 (I.base.free b o e n hx)
 · obtain ⟨o',e1⟩:=I.base.there b o e hx
   exact there b o' (neC b o e hx) e1
 · obtain ⟨m1,e1⟩:=I.base.tbls b ps e
   obtain ⟨m2,e2⟩:=tbls b _ e1
   exact ⟨m1++m2,by rw [e2,Array.append_assoc]⟩
 · obtain ⟨m,hn,hl⟩:=I.loc
   refine ⟨m,ns m hn,fun i x v e1 e2 e3=> ?_⟩
   obtain ⟨u,r,l⟩:=hl i x v e1 e2 e3
   refine ⟨u,r,?_⟩
   rcases l with l|⟨k,c,e,z⟩
   · exact .inl l
   · exact .inr ⟨k,c,e,cellK x c e _ z⟩
 · obtain ⟨v,z⟩:=I.cell x c e
   exact ⟨v,cellK x c e v z⟩
 · obtain ⟨m,⟨o,_,_,ho,_⟩,_⟩:=I.loc
   exact free _ o (fun z=>(hch _ z).2.1 rfl) ho I.free
 · obtain ⟨v,o,ho,hd⟩:=I.cell x c e
   exact free c o (fun z=>(hch c z).2.2.1 x c e rfl) ho (I.freeC x c e)
 · obtain ⟨e,n,ne,nf,d⟩:=I.pin p hp
   have nch:p.1∉ch:=fun z=>(hch p.1 z).2.2.2 p hp rfl
   exact ⟨keep p.1 p.2 ne nf nch e (.inl n),free p.1 p.2 nch e n,ne,nf,d⟩
theorem Inv.un {t':Nat} (I:Inv X pins σ H s) (u:Un X.fs [] H H' s.heap h') (hok:HOk X.prog X.w H' h'):Inv X pins σ H' {s with heap:=h',toks:=t'}:=by
 obtain ⟨m,⟨o,es,ep,ho,r⟩,_⟩:=id I.loc
 obtain ⟨sl,hL⟩:=u.any ho I.free (by simp)
 exact I.step (g':=s.gens) (d':=s.drawn) (ch:= []) (fun _ z=>nomatch z) (fun b o _ hb _ e n=>u.keep b o e n hb (by simp)) (fun b o _ hb _ e n=>u.slot b o e n hb (by simp)) (fun b o _ e n=>u.free b o e n (by simp)) (fun b o _ e=>u.there b o e (by simp)) u.tups u.frzs u.tbls (fun m' hm=>by
  obtain ⟨o',es',ep',ho',r'⟩:=hm
  rw [ho] at ho';cases ho'
  exact ⟨_,es',ep',hL,r'⟩) hok I.bare
theorem Inv.call {g':Array GenState} {t':Nat} {d':Drawn} {ch:List Addr} (I:Inv X pins σ H s) (u:Un (frs X.stack) ch H H' s.heap h') (hok:HOk X.prog X.w H' h') (hg:AllBare g')
 (hch:∀b∈ch,(b∈X.ex∨X.s₀.heap.objs.size≤b)∧b≠X.env.locals∧(∀x c,X.env.cells.lookup x=some c→c≠b)∧∀p∈X.pn++pins,p.1≠b):
 Inv X pins σ H' {s with heap:=h',gens:=g',drawn:=d',toks:=t'}:=by
 obtain ⟨m,⟨o,es,ep,ho,r⟩,_⟩:=id I.loc
 obtain ⟨sl,hL⟩:=u.any ho I.free fun z=>(hch _ z).2.1 rfl
 exact I.step (ch:=ch) hch (fun b o hL hb hc e n=>u.keep b o e n (fun z=>(zc.mp (I.stkSub b z)).elim hL hb) hc) (fun b o _ _ hc e n=>u.any e n hc) (fun b o hc e n=>u.free b o e n hc) (fun b o hc e=>u.there b o e hc) u.tups u.frzs u.tbls (fun m' hm=>by
  obtain ⟨o',es',ep',ho',r'⟩:=hm
  rw [ho] at ho';cases ho'
  exact ⟨_,es',ep',hL,r'⟩) hok hg
theorem Inv.turned {t':Nat} {it:Addr} (I:Inv X pins σ H s) (k:∀b o,b≠it→s.heap.get? b=some o→h'.get? b=some o) (hn:H it=none) (hL:it≠X.env.locals)
 (h1:it∈X.ex∨X.s₀.heap.objs.size≤it) (h2:∀x c,X.env.cells.lookup x=some c→c≠it) (h3:∀p∈X.pn++pins,p.1≠it):Inv X pins σ H {s with heap:=h',toks:=t'}:=by
 have nit:∀b u,H b=some u→b≠it:=fun b u e z=>by rw [z,hn] at e;cases e
 refine I.step (g':=s.gens) (d':=s.drawn) (ch:= [it]) (fun b hb=> ?_) (fun b o _ _ hc e _=>k b o (fun z=>hc (by simp [z])) e) (fun b o _ _ hc e _=>⟨o.slots,k b o (fun z=>hc (by simp [z])) e⟩) (fun _ _ _ _ n=>n)
  (fun b o hc e=>⟨o,k b o (fun z=>hc (by simp [z])) e⟩) (fun _ _ e=>e) (fun _ _ _ e=>e) (fun b ps e=>⟨#[],by rw [e];simp⟩) (fun m hm=> ?_) (fun b u e=> ?_) I.bare
 · have e:b=it:=by simpa using hb
   subst e
   exact ⟨h1,hL,h2,h3⟩
 · obtain ⟨o,es,ep,ho,r⟩:=hm
   exact ⟨o,es,ep,k _ o (Ne.symm hL) ho,r⟩
 · refine (I.hok b u e).stay (fun c v hc q=>k c v ?_ q) (fun _ q=>q) fun _ _ q=>q
   rcases hc with z|z
   · rw [z];exact nit b u e
   · exact nit c _ z
theorem Inv.tok (I:Inv X pins σ H s) (t:Nat):Inv X pins σ H {s with toks:=t}:=I.un (h':=s.heap) (t':=t) Un.refl I.hok
theorem Inv.kept {t':Nat} (I:Inv X pins σ H s) (k:∀b u,s.heap.get? b=some u→h'.get? b=some u):Inv X pins σ H {s with heap:=h',toks:=t'}:=I.un (Un.kept k) (I.hok.kept k)
theorem Inv.laid {a:Addr} {o:HO} {t':Nat} (I:Inv X pins σ H s) (k:∀b u,s.heap.get? b=some u→h'.get? b=some u) (hp:s.heap.objs.size≤a) (new:ObjOk X.prog X.w (upd H a o) h' a o):
 Inv X pins σ (upd H a o) {s with heap:=h',toks:=t'}:=I.un (Un.laid k hp (I.hok.fresh hp)) (I.hok.laid k hp new)
theorem Inv.write {x e:Addr} {o:HO} {t':Nat} (I:Inv X pins σ H s) (mu:Mut (H x)) (he:e=x∨H e=some (.own x)) (k:∀b u,b≠e→s.heap.get? b=some u→h'.get? b=some u) (heo:∃u,h'.get? e=some u)
 (new:ObjOk X.prog X.w (upd H x o) h' x o):Inv X pins σ (upd H x o) {s with heap:=h',toks:=t'}:=I.un (Un.write mu he k heo) (I.hok.write mu he k heo new)
theorem Inv.weak {σ':List (Option V)} (I:Inv X pins σ H s) (hl:σ'.length=σ.length) (w:∀(i:Nat) v,σ'[i]?=some (some v)→σ[i]?=some (some v)):Inv X pins σ' H s:=
 ⟨I.ok,I.os,I.bare,I.base,let ⟨m,hn,hl'⟩:=I.loc;⟨m,hn,fun i x v e1 e2 e3=>hl' i x v e1 (w i v e2) e3⟩,I.cell,I.free,I.freeC,I.pin,I.hok,hl.trans I.len⟩
theorem Inv.pins_of {pins':List (Addr×Obj)} (I:Inv X pins σ H s) (h:∀p∈pins',s.heap.get? p.1=some p.2∧H p.1=none∧p.1≠X.env.locals∧p.1∉X.fs∧∀v,p.2.data≠ .cell v):Inv X pins' σ H s:=
 ⟨I.ok,I.os,I.bare,I.base,I.loc,I.cell,I.free,I.freeC,fun p hp=>(zf.mp hp).elim (fun z=>I.pin p (zZ _ z)) (h p),I.hok,I.len⟩
theorem jj {N:List Str} (hN:N.Nodup) {i j:Nat} {x:Str} (a:N[i]?=some x) (b:N[j]?=some x):i=j:=by
 obtain ⟨h1,e1⟩:=zd.mp a
 obtain ⟨h2,e2⟩:=zd.mp b
 exact (List.getElem_inj hN).mp (e1.trans e2.symm)
theorem jI {M:Model} {A:Around} {E:Value→Shared→Prop} {i:Nat} {x:Str} {v:V} {u:Value} {Q:Unit→Shared→Prop} (I:Inv X pins σ H s) (hN:X.N.Nodup) (hi:X.N[i]?=some x) (hx:Loc X.env.scope x) (r:RelV v u)
 (h:∀s',Inv X pins (σ.set i (some v)) H s'→(∃a,Heap.SameBut a s.heap s'.heap∧(a=X.env.locals∨X.env.cells.lookup x=some a))→Q () s') (hf:X.fn x=true∨X.env.scope.names.lookup x=some .local:=by first|exact .inl rfl|exact .inr rfl|assumption):wpAny M A (storeName X.env x u) Q E s:=by
 obtain ⟨m,hn,hl⟩:=id I.loc
 have hcls:(X.env.scope.kind== .class ||(X.env.scope.kind== .module&&X.env.locals !=X.env.globals))=false:=by rw [I.ok.kind];rfl
 have hiσ:i < σ.length:=by rw [I.len];exact (zd.mp hi).1
 have cne:=I.cne
 have tracked:∀ {a:Addr} {h':Heap},(∃o,s.heap.get? a=some o∧H a=none)→Heap.SameBut a s.heap h'→HOk X.prog X.w H h':=fun {a h'} ha hs b ob e=>by
  obtain ⟨_,_,hfree⟩:=ha
  refine (I.hok b ob e).stay (fun c w' hc q=>(hs.2 c ?_).trans q) (fun _ q=>q) fun _ _ q=>q
  rintro rfl
  rcases hc with rfl|hc
  · rw [hfree] at e;cases e
  · rw [hfree] at hc;cases hc
 rcases hx with hk|hk
 · refine wpAny_storeName_local hk hn (fun h' hn' hs=> ?_) hcls
   obtain ⟨oL,_,_,hoL,_⟩:=id hn
   refine h _ ⟨I.ok,I.os,I.bare,⟨fun b o e n hb hx=> ?_,fun b o e n hb hx=> ?_,I.base.free,fun b o e hx=> ?_,I.base.tups,I.base.frzs,I.base.tbls⟩,⟨_,hn',fun j y v' e1 e2 e3=> ?_⟩,fun y c e=> ?_,I.free,I.freeC,fun p hp=> ?_,tracked ⟨oL,hoL,I.free⟩ hs,by simpa using I.len⟩ ⟨_,hs, .inl rfl⟩
   · exact (hs.2 b (zg (zl (Heap.lt_size e) I.ok.above))).trans (I.base.keep b o e n hb hx)
   · obtain ⟨sl,e1⟩:=I.base.slot b o e n hb hx
     exact ⟨sl,(hs.2 b (zg (zl (Heap.lt_size e) I.ok.above))).trans e1⟩
   · obtain ⟨o',e1⟩:=I.base.there b o e hx
     exact ⟨o',(hs.2 b (zg (zl (Heap.lt_size e) I.ok.above))).trans e1⟩
   · by_cases hj:j=i
     · subst hj
       rw [hi] at e1;cases e1
       rw [List.getElem?_set_self hiσ] at e2
       cases e2
       exact ⟨u,r, .inl ⟨hk,by simp⟩⟩
     · rw [List.getElem?_set_ne (Ne.symm hj)] at e2
       obtain ⟨u',r',q⟩:=hl j y v' e1 e2 e3
       refine ⟨u',r',?_⟩
       rcases q with ⟨k,e⟩|⟨k,c,e,z⟩
       · refine .inl ⟨k,?_⟩
         have:y≠x:=fun e=>hj (jj hN e1 (e▸hi))
         simp [this,e]
       · exact .inr ⟨k,c,e,z.sameBut hs (cne y c e)⟩
   · obtain ⟨w',z⟩:=I.cell y c e
     exact ⟨w',z.sameBut hs (cne y c e)⟩
   · obtain ⟨e,n,ne,nf,d⟩:=I.pin p hp
     exact ⟨(hs.2 p.1 ne).trans e,n,ne,nf,d⟩
 · have hfn:X.fn x=true:=by
    rcases hf with z|z
    · exact z
    · rw [z] at hk;cases hk
   obtain ⟨c,hc⟩:=I.ok.has x (.inl hk)
   obtain ⟨w',z⟩:=I.cell x c hc
   refine wpAny_storeName_cell I.ok.kind hk hc z (fun h' hc' hs=> ?_)
   obtain ⟨oc,hoc,hocd⟩:=id z
   refine h {s with heap:=h'} ⟨I.ok,I.os,I.bare,⟨fun b o e n hb hx=> ?_,fun b o e n hb hx=> ?_,I.base.free,fun b o e hx=> ?_,I.base.tups,I.base.frzs,I.base.tbls⟩,⟨m,hn.sameBut hs (Ne.symm (cne x c hc)),fun j y v' e1 e2 e3=> ?_⟩,fun y c' e=> ?_,I.free,I.freeC,fun p hp=> ?_,tracked ⟨oc,hoc,I.freeC x c hc⟩ hs,by simpa using I.len⟩ ⟨c,hs, .inr hc⟩
   · exact (hs.2 b (zg (zl (Heap.lt_size e) (I.ok.cab x c hfn hc)))).trans (I.base.keep b o e n hb hx)
   · obtain ⟨sl,e1⟩:=I.base.slot b o e n hb hx
     exact ⟨sl,(hs.2 b (zg (zl (Heap.lt_size e) (I.ok.cab x c hfn hc)))).trans e1⟩
   · obtain ⟨o',e1⟩:=I.base.there b o e hx
     exact ⟨o',(hs.2 b (zg (zl (Heap.lt_size e) (I.ok.cab x c hfn hc)))).trans e1⟩
   · by_cases hj:j=i
     · subst hj
       rw [hi] at e1;cases e1
       rw [List.getElem?_set_self hiσ] at e2
       cases e2
       exact ⟨u,r, .inr ⟨.inl hk,c,hc,hc'⟩⟩
     · rw [List.getElem?_set_ne (Ne.symm hj)] at e2
       obtain ⟨u',r',q⟩:=hl j y v' e1 e2 e3
       refine ⟨u',r',?_⟩
       rcases q with q|⟨k,c',e,z'⟩
       · exact .inl q
       · refine .inr ⟨k,c',e,z'.sameBut hs ?_⟩
         rintro rfl
         exact hj (jj hN e1 (I.ok.inj _ _ _ e hc▸hi))
   · by_cases hcc:c'=c
     · subst hcc;exact ⟨_,hc'⟩
     · obtain ⟨w2,z2⟩:=I.cell y c' e
       exact ⟨w2,z2.sameBut hs hcc⟩
   · obtain ⟨e,n,ne,nf,d⟩:=I.pin p hp
     refine ⟨(hs.2 p.1 ?_).trans e,n,ne,nf,d⟩
     intro q
     rw [q,hoc] at e
     have q':oc=p.2:=zu e
     exact d w' (by rw [←q'];exact hocd)
theorem eP {M:Model} {A:Around} {E:Value→Shared→Prop} {i:Nat} {x:Str} {v:V} {u:Value} {Q:Unit→Shared→Prop} (I:Inv X pins σ H s) (hN:X.N.Nodup) (hi:X.N[i]?=some x) (hx:Loc X.env.scope x) (r:RelV v u)
 (h:∀s',Inv X pins (σ.set i (some v)) H s'→Q () s') (hf:X.fn x=true∨X.env.scope.names.lookup x=some .local:=by first|exact .inl rfl|exact .inr rfl|assumption):wpAny M A (storeName X.env x u) Q E s:=
 jI I hN hi hx r (fun s' I' _=>h s' I') hf
theorem Inv.call' {s':Shared} {ch:List Addr} (I:Inv X pins σ H s) (ho:s'.os=s.os) (u:Un (frs X.stack) ch H H' s.heap s'.heap) (hok:HOk X.prog X.w H' s'.heap) (hg:AllBare s'.gens)
 (hch:∀b∈ch,(b∈X.ex∨X.s₀.heap.objs.size≤b)∧b≠X.env.locals∧(∀x c,X.env.cells.lookup x=some c→c≠b)∧∀p∈X.pn++pins,p.1≠b):Inv X pins σ H' s':=by
 obtain ⟨h',g',d',t',o'⟩:=s'
 have e:o'=s.os:=ho
 subst e
 exact I.call (g':=g') (t':=t') (d':=d') u hok hg hch
end
abbrev XK:=Value→Option Addr→Hp→Prop
abbrev St:=List (Option V)
abbrev VK:=V→Hp→Prop
abbrev TE:=St→Hp→VK→Prop
abbrev TT:=St→Hp→(Bool→Hp→Prop)→Prop
abbrev TA:=St→Hp→(List V→Hp→Prop)→Prop
structure Ends where
 nx:St→Hp→Prop
 rt:VK
 bk:St→Hp→Prop:=fun _ _=>False
 ct:St→Hp→Prop:=fun _ _=>False
abbrev TS:=Ends→St→Hp→Prop
def EP (X:Cx) (pins:List (Addr×Obj)) (σ:St) (Q:VK) (u:Value) (s':Shared):Prop:=∃v H',Inv X pins σ H' s'∧RelV v u∧Q v H'
def TP (X:Cx) (pins:List (Addr×Obj)) (σ:St) (Q:Bool→Hp→Prop) (b:Bool) (s':Shared):Prop:=∃H',Inv X pins σ H' s'∧Q b H'
def AP (X:Cx) (pins:List (Addr×Obj)) (σ:St) (Q:List V→Hp→Prop) (us:List Value) (s':Shared):Prop:=∃vs H',Inv X pins σ H' s'∧Vals vs us∧Q vs H'
def SP (X:Cx) (pins:List (Addr×Obj)) (D:Ends) (f:Flow) (s':Shared):Prop:=
 match f with
 | .next=>∃σ' H',Inv X pins σ' H' s'∧D.nx σ' H'
 | .brk=>∃σ' H',Inv X pins σ' H' s'∧D.bk σ' H'
 | .cont=>∃σ' H',Inv X pins σ' H' s'∧D.ct σ' H'
 | .ret u=>∃v σ' H',Inv X pins σ' H' s'∧RelV v u∧D.rt v H'
def PE (X:Cx) (e:Expr) (t:TE):Prop:=
 ∀(pins:List (Addr×Obj)) (s:Shared) (σ:St) (H:Hp) (Q:VK),Inv X pins σ H s→t σ H Q→wpAny (model X.prog X.w) X.A (eval e X.env) (EP X pins σ Q) X.xe s
def PT (X:Cx) (e:Expr) (t:TT):Prop:=
 ∀(pins:List (Addr×Obj)) (s:Shared) (σ:St) (H:Hp) (Q:Bool→Hp→Prop),Inv X pins σ H s→t σ H Q→wpAny (model X.prog X.w) X.A (isTrue e X.env (eval e X.env)) (TP X pins σ Q) X.xe s
def PW (X:Cx) (e:Expr) (t:TT):Prop:=
 ∀(whole:Sem Value) (pins:List (Addr×Obj)) (s:Shared) (σ:St) (H:Hp) (Q:Bool→Hp→Prop),Inv X pins σ H s→t σ H Q→wpAny (model X.prog X.w) X.A (isTrue e X.env whole) (TP X pins σ Q) X.xe s
theorem PW.pt {X:Cx} {e:Expr} {t:TT} (h:PW X e t):PT X e t:=h _
def PA (X:Cx) (es:List Expr) (t:TA):Prop:=
 ∀(pos:Pos) (pins:List (Addr×Obj)) (s:Shared) (σ:St) (H:Hp) (Q:List V→Hp→Prop),Inv X pins σ H s→t σ H Q→wpAny (model X.prog X.w) X.A (spliced (backTo pos (starEach es X.env))) (AP X pins σ Q) X.xe s
def PS (X:Cx) (st:Stmt) (t:TS):Prop:=
 ∀(pins:List (Addr×Obj)) (s:Shared) (σ:St) (H:Hp) (D:Ends),Inv X pins σ H s→t D σ H→wpAny (model X.prog X.w) X.A (exec st X.env) (SP X pins D) X.xe s
def PSs (X:Cx) (st:List Stmt) (t:TS):Prop:=
 ∀(pins:List (Addr×Obj)) (s:Shared) (σ:St) (H:Hp) (D:Ends),Inv X pins σ H s→t D σ H→wpAny (model X.prog X.w) X.A (execs st X.env) (SP X pins D) X.xe s
theorem thn {α:Type} {t:Sem α} {Q Q':α→Shared→Prop} {M:Model} {A:Around} {E:Value→Shared→Prop} {s:Shared} (h:wpAny M A t Q E s) (hQ:∀a s,Q a s→Q' a s):wpAny M A t Q' E s:=wpAny_mono h hQ fun _ _ x=>x
open PySem PySem.Spec PyProof.Rows
section
variable {X:Cx}
def tVar (i:Nat):TE:=fun σ H Q=>∃v,σ[i]?=some (some v)∧Q v H
def tC (v:V):TE:=fun _ H Q=>Q v H
theorem xo {i:Nat} {x:Str} {pos:Pos} (hN:X.N[i]?=some x) (hv:Vis X.env.scope x) (hd:(x==("__debug__":Str))=false:=by decide) (hcd:(x==("__classdict__":Str))=false:=by decide):PE X (.Name x pos) (tVar i):=by
 intro pins s σ H Q I h
 obtain ⟨v,e,h⟩:=h
 obtain ⟨m,hn,hl⟩:=I.loc
 obtain ⟨u,r,l⟩:=hl i x v hN e hv
 have fin:EP X pins σ Q u s:=⟨v,H,I,r,h⟩
 rcases l with ⟨hk,hm⟩|⟨hk,c,hc,hcell⟩
 · exact wpAny_Name (wpAny_loadName_local I.ok.kind hk hn hm fin) hd
 · rcases hk with hk|hk
   · exact wpAny_Name (wpAny_loadName_cell I.ok.kind hk hc hcell fin) hd
   · exact wpAny_Name (wpAny_loadName_free I.ok.kind hk hc hcell fin hcd) hd
theorem ac {i j pos}:PE X (.Constant (.int i) j pos) (tC (.int i)):=fun _ _ _ H _ I h=>wpAny_Constant_int ⟨.int i,H,I.tok _,⟨_,rfl⟩,h⟩
theorem cQ {b j pos}:PE X (.Constant (.bool b) j pos) (tC (.bl b)):=fun _ _ _ H _ I h=>Constant_bool ⟨.bl b,H,I,rfl,h⟩
theorem eG {j pos}:PE X (.Constant .none j pos) (tC .non):=fun _ _ _ H _ I h=>Constant_none ⟨.non,H,I,rfl,h⟩
theorem aY {x j pos}:PE X (.Constant (.str x) j pos) (tC (.str x)):=fun _ _ _ H _ I h=>Calls.Constant_str ⟨.str x,H,I.tok _,⟨_,rfl⟩,h⟩
def Gl (X:Cx) (x:Str):Prop:=X.env.kindOf x=some .globalImplicit
theorem g6 {E:Value→Shared→Prop} {pins:List (Addr×Obj)} {s:Shared} {σ:St} {H:Hp} {x:Str} {u:Value} {pos:Pos} {Q:Value→Shared→Prop} (I:Inv X pins σ H s) (hg:Gl X x) (hm:X.mg x=some u) (h:Q u s)
 (hd:(x==("__debug__":Str))=false:=by decide):wpAny (model X.prog X.w) X.A (eval (.Name x pos) X.env) Q E s:=
 Calls.Name_function_global I.ok.kind hg (Calls.loadGlobal_global (by rw [I.ok.glob];exact I.mod.glob.keeps I.bk) hm h) hd
theorem gy {E:Value→Shared→Prop} {pins:List (Addr×Obj)} {s:Shared} {σ:St} {H:Hp} {x:Str} {u:Value} {pos:Pos} {Q:Value→Shared→Prop} (I:Inv X pins σ H s) (hg:Gl X x) (hm:X.mg x=none) (hv:bootBuiltins x=some u) (h:Q u s)
 (hn:x≠"__name__":=by decide) (hd:(x==("__debug__":Str))=false:=by decide):wpAny (model X.prog X.w) X.A (eval (.Name x pos) X.env) Q E s:=by
 obtain ⟨mb,h1,h2⟩:=I.mod.blt
 exact Calls.Name_function_global I.ok.kind hg (Calls.loadGlobal_builtin (by rw [I.ok.glob];exact I.mod.glob.keeps I.bk) hm (by rw [I.ok.blt];exact h1.keeps I.bk) ((h2 x hn).trans hv) h) hd
theorem ck {x:Str} {v:V} {u:Value} {pos:Pos} (hg:Gl X x) (hm:X.mg x=some u) (r:RelV v u) (hd:(x==("__debug__":Str))=false:=by decide):PE X (.Name x pos) (tC v):=
 fun _ _ _ H _ I h=>g6 I hg hm ⟨v,H,I,r,h⟩ hd
theorem bh {x:Str} {v:V} {u:Value} {pos:Pos} (hg:Gl X x) (hm:X.mg x=none) (hv:bootBuiltins x=some u) (r:RelV v u) (hn:x≠"__name__":=by decide) (hd:(x==("__debug__":Str))=false:=by decide):PE X (.Name x pos) (tC v):=
 fun _ _ _ H _ I h=>gy I hg hm hv ⟨v,H,I,r,h⟩ hn hd
variable {a b:Expr} {ta tb:TE} {pos:Pos}
def tB (t:TE):TT:=fun σ H Q=>t σ H fun x H1=>∃c,x= .bl c∧Q c H1
theorem bf {e:Expr} {t:TE} (h:PE X e t) (he:∀whole,isTrue e X.env whole=(do let v←whole;standAt e.pos;holding [v] (truthy v)):=by intro _;rfl):PT X e (tB t):=by
 intro pins s σ H Q I hw
 refine isTrue_plain (thn (h pins s σ H _ I hw) fun v s1 ⟨x,H1,I1,r1,q1⟩=> ?_) (he _)
 obtain ⟨d,rfl,q⟩:=q1
 cases r1
 exact wpAny_truthy_bool ⟨H1,I1,q⟩
variable {tA tB':TT} {rest:List Expr}
def tAnd (t u:TT):TT:=fun σ H Q=>t σ H fun c H1=>if c=true then u σ H1 Q else Q false H1
def tOr (t u:TT):TT:=fun σ H Q=>t σ H fun c H1=>if c=true then Q true H1 else u σ H1 Q
def tNot (t:TT):TT:=fun σ H Q=>t σ H fun c H1=>Q (!c) H1
theorem hJ (ha:PT X a tA):PW X (.BoolOp .And [a] pos) tA:=by
 intro wh pins s σ H Q I h
 refine isTrue_and (thn (ha pins s σ H Q I h) fun c s1 e=> ?_)
 cases c with
 |true=>exact isTrue_and_nil e
 |false=>exact e
theorem cR (ha:PT X a tA):PW X (.BoolOp .Or [a] pos) tA:=by
 intro wh pins s σ H Q I h
 refine isTrue_or (thn (ha pins s σ H Q I h) fun c s1 e=> ?_)
 cases c with
 |false=>exact isTrue_or_nil e
 |true=>exact e
theorem jd (ha:PT X a tA) (hb:PW X (.BoolOp .And (b::rest) pos) tB'):PW X (.BoolOp .And (a::b::rest) pos) (tAnd tA tB'):=by
 intro wh pins s σ H Q I h
 refine isTrue_and (thn (ha pins s σ H _ I h) fun c s1 ⟨H1,I1,q1⟩=> ?_)
 cases c with
 |true=>exact hb wh pins s1 σ H1 Q I1 q1
 |false=>exact ⟨H1,I1,q1⟩
theorem cP (ha:PT X a tA) (hb:PW X (.BoolOp .Or (b::rest) pos) tB'):PW X (.BoolOp .Or (a::b::rest) pos) (tOr tA tB'):=by
 intro wh pins s σ H Q I h
 refine isTrue_or (thn (ha pins s σ H _ I h) fun c s1 ⟨H1,I1,q1⟩=> ?_)
 cases c with
 |true=>exact ⟨H1,I1,q1⟩
 |false=>exact hb wh pins s1 σ H1 Q I1 q1
theorem cj (ha:PT X a tA):PT X (.UnaryOp .Not a pos) (tNot tA):=by
 intro pins s σ H Q I h
 exact isTrue_not (ha pins s σ H (fun c H1=>Q (!c) H1) I h)
def yi (ta tb:TE):TE:=fun σ H Q=>ta σ H fun x H1=>∃c,x= .bl c∧if c=true then tb σ H1 Q else Q (.bl false) H1
def yg (ta:TE):TE:=fun σ H Q=>ta σ H fun x H1=>∃c,x= .bl c∧Q (.bl (!c)) H1
theorem cF {op} {t:TE} (h:PE X a t):PE X (.BoolOp op [a] pos) t:=fun pins s σ H Q I hw=>BoolOp_one (h pins s σ H Q I hw)
theorem c9 (ha:PE X a ta) (hb:PE X (.BoolOp .And (b::rest) pos) tb):PE X (.BoolOp .And (a::b::rest) pos) (yi ta tb):=by
 intro pins s σ H Q I h
 refine BoolOp_and (thn (ha pins s σ H _ I h) fun v s1 ⟨x,H1,I1,r1,q1⟩=> ?_)
 obtain ⟨c,rfl,q1⟩:=q1
 cases r1
 refine wpAny_truthy_bool ?_
 cases c with
 |true=>exact hb pins s1 σ H1 Q I1 q1
 |false=>exact ⟨.bl false,H1,I1,rfl,q1⟩
theorem iE (ha:PE X a ta):PE X (.UnaryOp .Not a pos) (yg ta):=by
 intro pins s σ H Q I h
 refine UnaryOp_ (thn (ha pins s σ H _ I h) fun v s1 ⟨x,H1,I1,r1,q1⟩=> ?_)
 obtain ⟨c,rfl,q1⟩:=q1
 cases r1
 exact not_of (wpAny_truthy_bool ⟨.bl (!c),H1,I1,rfl,q1⟩)
def tIf (t:TT) (ta tb:TE):TE:=fun σ H Q=>t σ H fun c H1=>if c=true then ta σ H1 Q else tb σ H1 Q
theorem mh {c:Expr} (hc:PT X c tA) (ha:PE X a ta) (hb:PE X b tb):PE X (.IfExp c a b pos) (tIf tA ta tb):=by
 intro pins s σ H Q I h
 refine wpAny_IfExp (thn (hc pins s σ H _ I h) fun d s1 ⟨H1,I1,q1⟩=> ?_)
 cases d with
 |true=>exact ha pins s1 σ H1 Q I1 q1
 |false=>exact hb pins s1 σ H1 Q I1 q1
end
open PySem PySem.Spec PyProof.Rows
def SqL (K:PySem.W.Frag) (H:Hp) (a:Addr) (xs:List V):Prop:=
 Rd H a (.lst xs)∨
  ∃(o:Obj) (its:Array Value) (n:Nat),K.lookup a=some o∧o.cls= .type "list"∧o.dict=none∧o.data= .seq its n∧its.size≤sizeLine∧Vals xs its.toList
def SqT (K:PySem.W.Frag) (H:Hp) (a:Addr) (xs:List V):Prop:=
 Rd H a (.tup xs)∨
  ∃(o:Obj) (its:Array Value) (n:Nat),K.lookup a=some o∧o.cls= .type "tuple"∧o.data= .seq its n∧its.size≤sizeLine∧Vals xs its.toList
noncomputable def absV:Value→Option V
 | .none=>some .non
 | .bool b=>some (.bl b)
 | .int i _=>some (.int i)
 | .str x _=>some (.str x)
 | .bytes b _=>some (.byt b)
 | .float b _=>some (.flt b)
 | .ref a=>some (.ref a)
 | .type n=>some (.ty n)
 |_=>none
theorem RelV.abs {x:V} {u:Value} (r:RelV x u):absV u=some x:=by
 cases x with
 |non=>cases r;rfl
 |bl _=>cases r;rfl
 |int _=>obtain ⟨t,rfl⟩:=r;rfl
 |str _=>obtain ⟨t,rfl⟩:=r;rfl
 |byt _=>obtain ⟨t,rfl⟩:=r;rfl
 |flt _=>obtain ⟨t,rfl⟩:=r;rfl
 |ref _=>cases r;rfl
 |ty _=>cases r;rfl
theorem RelV.inj {x y:V} {u:Value} (r:RelV x u) (q:RelV y u):x=y:=zu (r.abs.symm.trans q.abs)
theorem Vals.inj:∀ {xs ys:List V} {us:List Value},Vals xs us→Vals ys us→xs=ys
 |_,_,_, .nil, .nil=>rfl
 |_,_,_, .cons r t, .cons r' t'=>by rw [r.inj r',Vals.inj t t']
section
variable {X:Cx} {pins:List (Addr×Obj)} {σ:St} {H:Hp} {s:Shared} {a:Addr} {xs ys:List V}
theorem SqL.of {K:PySem.W.Frag} (h:H a=some (.lst xs)):SqL K H a xs:= .inl (.inl h)
theorem SqT.of {K:PySem.W.Frag} (h:H a=some (.tup xs)):SqT K H a xs:= .inl (.inl h)
theorem Inv.list (I:Inv X pins σ H s) (h:SqL X.K H a xs):∃its:List Value,Vals xs its∧PlainL s.heap a its.toArray∧xs.length≤sizeLine:=by
 rcases h with h|⟨o,its,n,hk,hc,hd,hs,hz,r⟩
 · obtain ⟨z,its,n,r,e⟩:=h.ok I.hok
   exact ⟨its,r,⟨_,n,e,rfl,rfl,rfl⟩,z⟩
 · refine ⟨its.toList,r,⟨o,n,I.kIn a o hk,hc,hd,by simpa using hs⟩,?_⟩
   have e:=r.length
   simp only [zk] at e
   omega
theorem Inv.tuple (I:Inv X pins σ H s) (h:SqT X.K H a xs):∃its:List Value,Vals xs its∧IsTup s.heap a its.toArray∧xs.length≤sizeLine:=by
 rcases h with h|⟨o,its,n,hk,hc,hs,hz,r⟩
 · obtain ⟨z,its,r,p⟩:=h.ok I.hok
   exact ⟨its,r,p,z⟩
 · refine ⟨its.toList,r,⟨o,I.kIn a o hk,hc,n,by simpa using hs⟩,?_⟩
   have e:=r.length
   simp only [zk] at e
   omega
theorem Inv.list_inj (I:Inv X pins σ H s) (h:SqL X.K H a xs) (h':SqL X.K H a ys):xs=ys:=by
 obtain ⟨its,r,⟨o,n,e,_,_,d⟩,_⟩:=I.list h
 obtain ⟨its',r',⟨o',n',e',_,_,d'⟩,_⟩:=I.list h'
 rw [e] at e';cases e'
 rw [d] at d'
 injection d' with d1 _
 have:its=its':=by simpa using congrArg Array.toList d1
 subst this
 exact r.inj r'
theorem Inv.tuple_inj (I:Inv X pins σ H s) (h:SqT X.K H a xs) (h':SqT X.K H a ys):xs=ys:=by
 obtain ⟨its,r,⟨o,e,_,n,d⟩,_⟩:=I.tuple h
 obtain ⟨its',r',⟨o',e',_,n',d'⟩,_⟩:=I.tuple h'
 rw [e] at e';cases e'
 rw [d] at d'
 injection d' with d1 _
 have:its=its':=by simpa using congrArg Array.toList d1
 subst this
 exact r.inj r'
end
abbrev Cx.wish (X:Cx) (E:Value→Shared→Prop):Cx:= {X with xe:=E}
abbrev Cx.nox (X:Cx):Cx:=X.wish fun _ _=>False
theorem Cx.Ok.wish {X:Cx} (ok:X.Ok) (E:Value→Shared→Prop):(X.wish E).Ok:=
 ⟨ok.mod,ok.kind,ok.glob,ok.blt,ok.above,ok.inj,ok.has,ok.cab,ok.hd,ok.frames,ok.stk,ok.exf,ok.bs,ok.bsz,ok.noex,ok.exfs,ok.funs,ok.frf⟩
theorem Cx.Ok.unwish {X:Cx} {E:Value→Shared→Prop} (ok:(X.wish E).Ok):X.Ok:=
 ⟨ok.mod,ok.kind,ok.glob,ok.blt,ok.above,ok.inj,ok.has,ok.cab,ok.hd,ok.frames,ok.stk,ok.exf,ok.bs,ok.bsz,ok.noex,ok.exfs,ok.funs,ok.frf⟩
section
variable {X:Cx} {pins:List (Addr×Obj)} {σ:St} {H:Hp} {s:Shared} {E:Value→Shared→Prop}
theorem Inv.wish (I:Inv X pins σ H s) (E:Value→Shared→Prop):Inv (X.wish E) pins σ H s:=⟨I.ok.wish E,I.os,I.bare,I.base,I.loc,I.cell,I.free,I.freeC,I.pin,I.hok,I.len⟩
theorem Inv.unwish (I:Inv (X.wish E) pins σ H s):Inv X pins σ H s:=⟨I.ok.unwish,I.os,I.bare,I.base,I.loc,I.cell,I.free,I.freeC,I.pin,I.hok,I.len⟩
theorem SP.unwish {D:Ends} {f:Flow} {s':Shared} (h:SP (X.wish E) pins D f s'):SP X pins D f s':=by
 cases f with
 |next=>obtain ⟨σ',H',I,q⟩:=h;exact ⟨σ',H',I.unwish,q⟩
 |brk=>obtain ⟨σ',H',I,q⟩:=h;exact ⟨σ',H',I.unwish,q⟩
 |cont=>obtain ⟨σ',H',I,q⟩:=h;exact ⟨σ',H',I.unwish,q⟩
 |ret u=>obtain ⟨v,σ',H',I,r,q⟩:=h;exact ⟨v,σ',H',I.unwish,r,q⟩
theorem PSs.nox {st:List Stmt} {t:TS} (h:PSs X.nox st t):PSs X st t:=fun pins s σ H D I hw=>
 wpAny_mono (h pins s σ H D (I.wish _) hw) (fun _ _ q=>q.unwish) fun _ _ z=>False.elim z
end
section
variable {X:Cx} {st:Stmt} {rest:List Stmt} {t u:TS} {e:Expr} {te:TE} {pos:Pos}
def rJ:TS:=fun D σ H=>D.nx σ H
def tSeq (t u:TS):TS:=fun D σ H=>t {D with nx:=u D} σ H
theorem au:PSs X [] rJ:=fun _ _ σ H _ I h=>wpAny_execs_nil ⟨σ,H,I,h⟩
theorem af (h1:PS X st t) (h2:PSs X rest u):PSs X (st::rest) (tSeq t u):=by
 intro pins s σ H D I h
 refine wpAny_execs_cons (thn (h1 pins s σ H {D with nx:=u D} I h) fun f s1 q=> ?_)
 cases f with
 |next=>
  obtain ⟨σ',H',I',q⟩:=q
  exact h2 pins s1 σ' H' D I' q
 |ret v=>exact q
 |brk=>exact q
 |cont=>exact q
theorem aj (h1:PS X st t):PSs X [st] t:=by
 intro pins s σ H D I h
 refine wpAny_execs_cons (thn (h1 pins s σ H D I h) fun f s1 q=> ?_)
 cases f with
 |next=>exact wpAny_execs_nil q
 |ret v=>exact q
 |brk=>exact q
 |cont=>exact q
theorem Inv.quiet {pins:List (Addr×Obj)} {σ:St} {H:Hp} {s:Shared} (I:Inv X pins σ H s):interactive X.env=false:=by simp [interactive,I.ok.kind]
def yh (te:TE):TS:=fun D σ H=>te σ H fun _ H1=>D.nx σ H1
theorem f8 (he:PE X e te) (hs:swapsWith e none pos.line X.env=pure false:=by rfl):PS X (.Expr e pos) (yh te):=by
 intro pins s σ H D I h
 exact wpAny_Expr_any (thn (he pins s σ H _ I h) fun v s1 ⟨x,H1,I1,r1,q1⟩=>⟨σ,H1,I1,q1⟩) I.quiet hs
def tRet (te:TE):TS:=fun D σ H=>te σ H D.rt
theorem am (he:PE X e te):PS X (.Return (some e) pos) (tRet te):=by
 intro pins s σ H D I h
 exact wpAny_Return_some (thn (he pins s σ H _ I h) fun v s1 ⟨x,H1,I1,r1,q1⟩=>⟨x,σ,H1,I1,r1,q1⟩)
def tIfS (c:TT) (t u:TS):TS:=fun D σ H=>c σ H fun b H1=>if b=true then t D σ H1 else u D σ H1
theorem aP {c:Expr} {a b:List Stmt} {tc:TT} (hc:PT X c tc) (ha:PSs X a t) (hb:PSs X b u):PS X (.If c a b pos) (tIfS tc t u):=by
 intro pins s σ H D I h
 refine wpAny_If (thn (hc pins s σ H _ I h) fun d s1 ⟨H1,I1,q1⟩=> ?_)
 cases d with
 |true=>exact ha pins s1 σ H1 D I1 q1
 |false=>exact hb pins s1 σ H1 D I1 q1
end
abbrev TG:=V→St→Hp→(St→Hp→Prop)→Prop
abbrev TGs:=List V→St→Hp→(St→Hp→Prop)→Prop
def PG (X:Cx) (target:Expr) (t:TG):Prop:=
 ∀(pins:List (Addr×Obj)) (s:Shared) (σ:St) (H:Hp) (v:V) (u:Value) (Q:St→Hp→Prop),Inv X pins σ H s→RelV v u→t v σ H Q→
  wpAny (model X.prog X.w) X.A (assign target X.env u) (fun _ s'=>∃σ' H',Inv X pins σ' H' s'∧Q σ' H') X.xe s
def PGs (X:Cx) (ts:List Expr) (t:TGs):Prop:=
 ∀(pins:List (Addr×Obj)) (s:Shared) (σ:St) (H:Hp) (vs:List V) (us:List Value) (Q:St→Hp→Prop),Inv X pins σ H s→Vals vs us→t vs σ H Q→
  wpAny (model X.prog X.w) X.A (assignInOrder ((assignEach ts X.env).map (·.2)) us) (fun _ s'=>∃σ' H',Inv X pins σ' H' s'∧Q σ' H') X.xe s
abbrev TSet:=V→V→V→Hp→(Hp→Prop)→Prop
def PSet (X:Cx) (t:TSet):Prop:=
 ∀(pins:List (Addr×Obj)) (s:Shared) (σ:St) (H:Hp) (o i v:V) (ov iv u:Value) (Q:Hp→Prop),Inv X pins σ H s→RelV o ov→RelV i iv→RelV v u→t o i v H Q→
  wpAny (model X.prog X.w) X.A (setItem ov iv u) (fun _ s'=>∃H',Inv X pins σ H' s'∧Q H') X.xe s
section
variable {X:Cx} {pos:Pos}
def aV (i:Nat):TG:=fun v σ H Q=>Q (σ.set i (some v)) H
theorem ax {i:Nat} {x:Str} (hN:X.N.Nodup) (hi:X.N[i]?=some x) (hx:Loc X.env.scope x) (hf:X.fn x=true∨X.env.scope.names.lookup x=some .local:=by first|exact .inl rfl|exact .inr rfl|assumption):PG X (.Name x pos) (aV i):=by
 intro pins s σ H v u Q I r h
 exact wpAny_assign_Name (eP I hN hi hx r (fun s' I'=>⟨_,H,I',h⟩) hf)
def gNil:TGs:=fun vs σ H Q=>vs= []∧Q σ H
def bQ (t:TG) (u:TGs):TGs:=fun vs σ H Q=>∃v r,vs=v::r∧t v σ H fun σ' H'=>u r σ' H' Q
theorem ci:PGs X [] gNil:=by
 intro pins s σ H vs us Q I r h
 obtain ⟨e,h⟩:=h
 subst e
 cases r
 exact assignInOrder_nil ⟨σ,H,I,h⟩
theorem aI {e:Expr} {es:List Expr} {t:TG} {u:TGs} (h1:PG X e t) (h2:PGs X es u)
 (hs:(assignEach (e::es) X.env).map (·.2)=assign e X.env::(assignEach es X.env).map (·.2):=by rfl):PGs X (e::es) (bQ t u):=by
 intro pins s σ H vs us Q I r h
 obtain ⟨v,vr,e1,h⟩:=h
 subst e1
 cases r with
 |cons r rr=>
  rw [hs]
  refine assignInOrder_cons (thn (h1 pins s σ H _ _ _ I r h) fun _ s1 ⟨σ1,H1,I1,q1⟩=> ?_)
  exact h2 pins s1 σ1 H1 _ _ Q I1 rr q1
def gTup (K:PySem.W.Frag) (n:Nat) (t:TGs):TG:=fun v σ H Q=>∃a xs,v= .ref a∧SqT K H a xs∧xs.length=n∧t xs σ H Q
theorem cw {es:List Expr} {k:Nat} {t:TGs} {n:Nat} (hc:X.calm=true) (h:PGs X es t)
 (hn:(assignEach es X.env).length=n:=by rfl) (hst:(assignEach es X.env).findIdx? (·.1)=none:=by rfl):PG X (.Tuple es k pos) (gTup X.K n t):=by
 intro pins s σ H v u Q I r hw
 obtain ⟨a,xs,e1,hq,hl,hw⟩:=hw
 subst e1
 cases r
 obtain ⟨its,rv,ht,hz⟩:=I.tuple hq
 refine assign_Tuple_tuple (I.ok.hd hc) ht (by simp [hn,←hl,rv.length]) hst fun h' hx=> ?_
 have I1:Inv X pins σ H {s with heap:=h'}:=I.kept (t':=s.toks) fun b o e=>hx b o (zg (Heap.lt_size e)) e
 exact h pins _ σ H xs _ Q I1 (by simpa using rv) hw
def gSub (to ti:TE) (t:TSet):TG:=fun v σ H Q=>to σ H fun o H1=>ti σ H1 fun i H2=>t o i v H2 fun H3=>Q σ H3
theorem nY {o i:Expr} {to ti:TE} {t:TSet} (ho:PE X o to) (hi:PE X i ti) (hs:PSet X t)
 (ha:∀v,assign (.Subscript o i pos) X.env v=(do
  let ov←holding [v] (eval o X.env)
  let iv←holding [v,ov] (eval i X.env)
  standAt pos
  holding [v,ov,iv] (setItem ov iv v)
  release [v,ov,iv] []):=by intro _;rfl):PG X (.Subscript o i pos) (gSub to ti t):=by
 intro pins s σ H v u Q I r h
 rw [ha]
 refine wpAny_bind (wpAny_holding (thn (ho pins s σ H _ I h) fun ov s1 ⟨x,H1,I1,r1,q1⟩=> ?_))
 refine wpAny_bind (wpAny_holding (thn (hi pins s1 σ H1 _ I1 q1) fun iv s2 ⟨y,H2,I2,r2,q2⟩=> ?_))
 refine wpAny_bind (wpAny_standAt (wpAny_bind (wpAny_holding (thn (hs pins s2 σ H2 x y v ov iv u _ I2 r1 r2 r q2) fun _ s3 ⟨H3,I3,q3⟩=> ?_))))
 exact wpAny_release ⟨σ,H3,I3,q3⟩
def tAsg (te:TE) (g:TG):TS:=fun D σ H=>te σ H fun x H1=>g x σ H1 D.nx
theorem fk {tg e:Expr} {te:TE} {g:TG} (he:PE X e te) (hg:PG X tg g) (hs:swapsWithSole [tg] e pos.line X.env=pure false:=by rfl) (hw:swappedStores [tg] e X.env=pure none:=by rfl)
 (h1:(assignEach [tg] X.env).map (·.2)= [assign tg X.env]:=by rfl):PS X (.Assign [tg] e pos) (tAsg te g):=by
 intro pins s σ H D I h
 refine wpAny_Assign_stores (thn (he pins s σ H _ I h) fun v s1 ⟨x,H1,I1,r1,q1⟩=> ?_) hs hw
 rw [h1]
 exact thn (hg pins s1 σ H1 x v _ I1 r1 q1) fun _ s2 q=>q
theorem aJ {i:Nat} {x:Str} {e:Expr} {te:TE} {pos':Pos} (hN:X.N.Nodup) (hi:X.N[i]?=some x) (hx:Loc X.env.scope x) (he:PE X e te) (hs:swapsWith e (some (.Name x pos')) pos.line X.env=pure false:=by rfl) (hf:X.fn x=true∨X.env.scope.names.lookup x=some .local:=by first|exact .inl rfl|exact .inr rfl|assumption):
 PS X (.Assign [.Name x pos'] e pos) (tAsg te (aV i)):=by
 intro pins s σ H D I h
 refine wpAny_Assign_Name (thn (he pins s σ H _ I h) fun v s1 ⟨y,H1,I1,r1,q1⟩=> ?_) hs
 exact eP I1 hN hi hx r1 (fun s2 I2=>⟨_,H1,I2,q1⟩) hf
def tPar (i j:Nat) (ta:TA):TS:=fun D σ H=>ta σ H fun vs H1=>∃v w,vs= [v,w]∧D.nx ((σ.set i (some v)).set j (some w)) H1
theorem xj {i j:Nat} {x y:Str} {a b:Expr} {ta:TA} {px py pt:Pos} {kt k2 pt2} (hc:X.calm=true) (hN:X.N.Nodup) (hi:X.N[i]?=some x) (hj:X.N[j]?=some y) (hij:i≠j)
 (hx:X.env.scope.names.lookup x=some .local) (hy:X.env.scope.names.lookup y=some .local) (ha:PA X [a,b] ta)
 (hw:swappedStores [.Tuple [.Name x px, .Name y py] kt pt] (.Tuple [a,b] k2 pt2) X.env=pure (some [x,y]))
 (hs:swapsWithSole [.Tuple [.Name x px, .Name y py] kt pt] (.Tuple [a,b] k2 pt2) pos.line X.env=pure false:=by rfl):
 PS X (.Assign [.Tuple [.Name x px, .Name y py] kt pt] (.Tuple [a,b] k2 pt2) pos) (tPar i j ta):=by
 intro pins s σ H D I h
 rw [exec_Assign_arm]
 refine wpAny_bind (wpAny_standAt ?_)
 rw [hs]
 refine wpAny_bind (wpAny_pure ?_)
 rw [if_neg (by decide)]
 refine wpAny_bind (Tuple_ (thn (ha _ pins s σ H _ I h) fun us s1 ⟨vs,H1,I1,r1,q1⟩=> ?_))
 obtain ⟨v,w,e1,q1⟩:=q1
 subst e1
 obtain ⟨u1,u2,rfl,rv,rw'⟩:∃u1 u2,us= [u1,u2]∧RelV v u1∧RelV w u2:=by
  cases r1 with
  |cons p q=>
   cases q with
   |cons p' q'=>
    cases q'
    exact ⟨_,_,rfl,p,p'⟩
 refine wpAny_newObj_type ?_ (by show 2≤sizeLine;decide)
 have I2:Inv X pins σ H1 {s1 with heap:=s1.heap.push {cls:= .type "tuple",data:= .seq [u1,u2].toArray}}:=I1.kept (t':=s1.toks) fun b o e=>Heap.get?_push_of_some _ e
 rw [hw]
 refine wpAny_bind (wpAny_pure ?_)
 show wpAny (model X.prog X.w) X.A (do rule "assign.swapped-stores";let items←unpackItems (.ref s1.heap.objs.size) 2 none;assignInOrder [fun v=>bindName X.env y v,fun v=>bindName X.env x v] items.reverse;pure Flow.next) _ _ _
 refine wpAny_bind (wpAny_rule (wpAny_bind (unpackItems_tuple (items:= #[u1,u2]) (I.ok.hd hc) (IsTup.new s1.heap _) fun h' hx'=> ?_)))
 have I3:=I2.kept (h':=h') (t':=s1.toks) fun b o e=>hx' b o (zg (Heap.lt_size e)) e
 show wpAny _ _ (assignInOrder [fun v=>bindName X.env y v,fun v=>bindName X.env x v] [u2,u1] >>=fun _=>pure Flow.next) _ _ _
 refine wpAny_bind (assignInOrder_cons (wpAny_bindName (eP I3 hN hj (.inl hy) rw' (fun s2 I4=> ?_) (.inr hy))))
 refine assignInOrder_cons (wpAny_bindName (eP I4 hN hi (.inl hx) rv (fun s3 I5=>assignInOrder_nil (wpAny_pure ?_)) (.inr hx)))
 rw [List.set_comm _ _ (Ne.symm hij)] at I5
 exact ⟨_,H1,I5,q1⟩
end
section
variable {X:Cx} {pos:Pos}
def rH (c:TT) (tb:TS):TS:=fun D σ H=>∃W:Nat→St→Hp→Prop,(∃m,W m σ H)∧∀m σ H,W m σ H→
 c σ H fun b H1=>if b=true then∃N:St→Hp→Prop,(∀σ' H',N σ' H'→∃m',m' < m∧W m' σ' H')∧tb {D with nx:=N,ct:=N,bk:=D.nx} σ H1 else D.nx σ H1
theorem sJ {c:Expr} {body:List Stmt} {tc:TT} {tb:TS} (hp:PassesOwn (model X.prog X.w) X.A X.env X.xe) (hc:PT X c tc) (hb:PSs X body tb):PS X (.While c body [] pos) (rH tc tb):=by
 intro pins s σ H D I h
 obtain ⟨W,⟨m0,w0⟩,turn⟩:=h
 refine wpAny_While (codeAny_whileLoop (fun n s'=>∃σ' H',Inv X pins σ' H' s'∧W n σ' H') ?_ m0 ⟨σ,H,I,w0⟩)
 rintro n s1 ⟨σ1,H1,I1,w1⟩
 refine wpAny_passesOwn hp (thn (hc pins s1 σ1 H1 _ I1 (turn n σ1 H1 w1)) fun b s2 ⟨H2,I2,q2⟩=> ?_)
 cases b with
 |true=>
  obtain ⟨N,hN,q2⟩:=q2
  rw [if_pos rfl]
  refine wpAny_passesOwn hp (thn (hb pins s2 σ1 H2 _ I2 q2) fun f s3 q3=> ?_)
  cases f with
  |next=>
   obtain ⟨σ3,H3,I3,n3⟩:=q3
   obtain ⟨m',hm,w3⟩:=hN σ3 H3 n3
   exact ⟨m',hm,σ3,H3,I3,w3⟩
  |cont=>
   obtain ⟨σ3,H3,I3,n3⟩:=q3
   obtain ⟨m',hm,w3⟩:=hN σ3 H3 n3
   exact ⟨m',hm,σ3,H3,I3,w3⟩
  |brk=>exact q3
  |ret v=>exact q3
 |false=>
  rw [if_neg zj]
  exact wpAny_execs_nil ⟨σ1,H2,I2,q2⟩
end
structure It where
 go:Nat→Hp→Prop
 yld:Nat→Hp→V→Hp→Prop
 stop:Nat→Hp→Prop
def FpOk (X:Cx) (pins:List (Addr×Obj)) (H:Hp) (b:Addr):Prop:=
 H b=none∧b≠X.env.locals∧b∉X.fs∧(b∈X.ex∨X.s₀.heap.objs.size≤b)∧(∀x c,X.env.cells.lookup x=some c→c≠b)∧∀p∈X.pn++pins,p.1≠b
theorem Inv.fpOk {X:Cx} {pins:List (Addr×Obj)} {σ:St} {H H':Hp} {s:Shared} {b:Addr} (I:Inv X pins σ H s) (hb:s.heap.objs.size≤b) (hn:H' b=none):FpOk X pins H' b:=by
 refine ⟨hn,Nat.ne_of_gt (zl I.lt hb),I.nofs hb, .inr (zJ I.sz hb),fun x c e z=> ?_,fun p hp z=> ?_⟩
 · obtain ⟨v,q⟩:=I.cell x c e
   exact absurd (zl q.lt (by rw [z];exact hb)) (Ae _)
 · exact absurd (zl (Heap.lt_size (I.pin p hp).1) (by rw [z];exact hb)) (Ae _)
structure Turn (P:Program) (w:World) (K:PySem.W.Frag) (tg:Expr) (J:It) (fp:List Addr) (it:Addr) (tn:Nat→Heap→Prop):Prop where
 mem:it∈fp
 obj:∀i h,tn i h→∀b∈fp,∃o,h.get? b=some o∧∀v,o.data≠ .cell v
 keep:∀i h h',tn i h→(∀b∈fp,∀o,h.get? b=some o→h'.get? b=some o)→tn i h'
 item:∀(X:Cx),X.prog=P→X.w=w→X.K=K→X.calm=true→∀(i:Nat) (pins:List (Addr×Obj)) (s:Shared) (σ:St) (H:Hp) (E:Value→Shared→Prop),Inv X pins σ H s→(∀b∈fp,FpOk X pins H b)→tn i s.heap→J.go i H→
  wpAny (model P w) X.A (pyNext (.ref it)) (fun r s1=>∃u,r=some u∧
   wpAny (model P w) X.A (letOwnedTupleGo tg (.ref it) u) (fun _ s2=>∃x H',Inv X pins σ H' s2∧RelV x u∧J.yld i H x H'∧tn (i+1) s2.heap∧∀b∈fp,H' b=none) E s1) E s
 done:∀(X:Cx),X.prog=P→X.w=w→X.K=K→X.calm=true→∀(i:Nat) (pins:List (Addr×Obj)) (s:Shared) (σ:St) (H:Hp) (E:Value→Shared→Prop),Inv X pins σ H s→(∀b∈fp,FpOk X pins H b)→tn i s.heap→J.stop i H→
  wpAny (model P w) X.A (pyNext (.ref it)) (fun r s1=>r=none∧Inv X pins σ H s1) E s
 self:∀(A:Around) (i:Nat) (s:Shared) (Q:Value→Shared→Prop) (E:Value→Shared→Prop),tn i s.heap→Q (.ref it) s→wpAny (model P w) A (pyIter (.ref it)) Q E s
abbrev TI:=St→Hp→(It→Hp→Prop)→Prop
def PIE (X:Cx) (pins:List (Addr×Obj)) (σ:St) (tg:Expr) (R:It→Hp→Prop) (itv:Value) (s2:Shared):Prop:=
 ∃(it:Addr) (fp:List Addr) (tn:Nat→Heap→Prop) (J:It) (H':Hp),itv= .ref it∧Inv X pins σ H' s2∧Turn X.prog X.w X.K tg J fp it tn∧tn 0 s2.heap∧(∀b∈fp,FpOk X pins H' b)∧R J H'
def PI (X:Cx) (tg iter:Expr) (wi:TI):Prop:=
 ∀(pins:List (Addr×Obj)) (s:Shared) (σ:St) (H:Hp) (R:It→Hp→Prop),Inv X pins σ H s→wi σ H R→
  wpAny (model X.prog X.w) X.A (eval iter X.env) (fun v s1=>wpAny (model X.prog X.w) X.A (pyIter v) (PIE X pins σ tg R) X.xe s1) X.xe s
theorem uc {M:Model} {A:Around} {E:Value→Shared→Prop} {s:Shared} {tg:Expr} {it:Addr} {u:Value} {o:Obj} {n:String} {vs:Array Value} {Q:Unit→Shared→Prop} (ho:s.heap.get? it=some o) (hc:o.cls= .type n) (hd:o.data= .fields vs)
 (hn: ["enumerate","zip","dict_itemiterator","dict_reverseitemiterator","odict_iterator","itertools.zip_longest","itertools.pairwise"].contains n=false) (hQ:Q () s):wpAny M A (letOwnedTupleGo tg (.ref it) u) Q E s:=by
 unfold letOwnedTupleGo
 cases tg<;>first
  |exact wpAny_pure hQ
  |(cases u<;>first
     |exact wpAny_pure hQ
     |(refine wpAny_bind (wpAny_load ho ?_)
       rw [hc,hd]
       show wpAny M A (if (["enumerate","zip","dict_itemiterator","dict_reverseitemiterator","odict_iterator","itertools.zip_longest","itertools.pairwise"].contains n&&vs[0]?==some (rawInt _))=true then _ else _) Q E s
       rw [if_neg (by intro h;rw [hn,Bool.false_and] at h;cases h)]
       exact wpAny_pure hQ))
def Itl (K:PySem.W.Frag) (a:Addr):It:=
 ⟨fun i H=>∃xs x,SqL K H a xs∧xs[i]?=some x,fun i H x H'=>H'=H∧∀xs,SqL K H a xs→xs[i]?=some x,fun i H=>∃xs,SqL K H a xs∧xs.length≤i⟩
def Itt (K:PySem.W.Frag) (a:Addr):It:=
 ⟨fun i H=>∃xs x,SqT K H a xs∧xs[i]?=some x,fun i H x H'=>H'=H∧∀xs,SqT K H a xs→xs[i]?=some x,fun i H=>∃xs,SqT K H a xs∧xs.length≤i⟩
def Itr (lo:Int) (n:Nat):It:=⟨fun i _=>i < n,fun i H x H'=>H'=H∧x= .int (lo+i),fun i _=>n≤i⟩
theorem qg {P:Program} {w:World} {K:PySem.W.Frag} {tg:Expr} (a it:Addr):Turn P w K tg (Itl K a) [it] it (fun i h=>h.IsListIter it a i) where
 mem:=by simp
 obj:=fun i h st b hb=>by
  have e:b=it:=by simpa using hb
  subst e
  obtain ⟨o,e,c,d⟩:=st
  exact ⟨o,e,fun v z=>by rw [d] at z;cases z⟩
 keep:=fun i h h' st k=>st.at fun o e=>k it (by simp) o e
 item:=by
  intro X hP hw hK hc i pins s σ H E I hf st hg
  subst hP hw hK
  obtain ⟨xs,x,hq,hx⟩:=hg
  obtain ⟨its,rv,p,hz⟩:=I.list hq
  obtain ⟨u,hu,ru⟩:=rv.get hx
  obtain ⟨f0,f1,f2,f3,f4,f5⟩:=hf it (by simp)
  refine wpAny_pyNext_list_item st p.isList (x:=u) (by simpa using hu) fun h' st' sb=> ?_
  have I1:Inv X pins σ H {s with heap:=h'}:=I.turned (t':=s.toks) (fun b o hb e=>(sb.2 b hb).trans e) f0 f1 f3 f4 f5
  obtain ⟨o,e,c,d⟩:=id st'
  exact ⟨u,rfl,uc (s:= {s with heap:=h'}) e c d (by decide) ⟨x,H,I1,ru,⟨rfl,fun ys hy=>by rw [I.list_inj hy hq];exact hx⟩,st',fun b hb=>(hf b hb).1⟩⟩
 done:=by
  intro X hP hw hK hc i pins s σ H E I hf st hg
  subst hP hw hK
  obtain ⟨xs,hq,hx⟩:=hg
  obtain ⟨its,rv,p,hz⟩:=I.list hq
  obtain ⟨f0,f1,f2,f3,f4,f5⟩:=hf it (by simp)
  have hl:=rv.length
  exact wpAny_pyNext_list_end (I.ok.hd hc) st p.isList (by simp;omega) fun h' eb=>⟨rfl,I.turned (t':=s.toks) (fun b o hb e=>eb b o hb e) f0 f1 f3 f4 f5⟩
 self:=fun _ _ _ _ _ st h=>wpAny_pyIter_listiter st h
theorem nN {P:Program} {w:World} {K:PySem.W.Frag} {tg:Expr} (a it:Addr):Turn P w K tg (Itt K a) [it] it (fun i h=>h.IsTupleIter it a i) where
 mem:=by simp
 obj:=fun i h st b hb=>by
  have e:b=it:=by simpa using hb
  subst e
  obtain ⟨o,e,c,d⟩:=st
  exact ⟨o,e,fun v z=>by rw [d] at z;cases z⟩
 keep:=fun i h h' st k=>st.at fun o e=>k it (by simp) o e
 item:=by
  intro X hP hw hK hc i pins s σ H E I hf st hg
  subst hP hw hK
  obtain ⟨xs,x,hq,hx⟩:=hg
  obtain ⟨its,rv,p,hz⟩:=I.tuple hq
  obtain ⟨u,hu,ru⟩:=rv.get hx
  obtain ⟨f0,f1,f2,f3,f4,f5⟩:=hf it (by simp)
  refine wpAny_pyNext_tuple_item st (show s.heap.IsTuple a its.toArray from p) (x:=u) (by simpa using hu) fun h' st' sb=> ?_
  have I1:Inv X pins σ H {s with heap:=h'}:=I.turned (t':=s.toks) (fun b o hb e=>(sb.2 b hb).trans e) f0 f1 f3 f4 f5
  obtain ⟨o,e,c,d⟩:=id st'
  exact ⟨u,rfl,uc (s:= {s with heap:=h'}) e c d (by decide) ⟨x,H,I1,ru,⟨rfl,fun ys hy=>by rw [I.tuple_inj hy hq];exact hx⟩,st',fun b hb=>(hf b hb).1⟩⟩
 done:=by
  intro X hP hw hK hc i pins s σ H E I hf st hg
  subst hP hw hK
  obtain ⟨xs,hq,hx⟩:=hg
  obtain ⟨its,rv,p,hz⟩:=I.tuple hq
  obtain ⟨f0,f1,f2,f3,f4,f5⟩:=hf it (by simp)
  have hl:=rv.length
  exact wpAny_pyNext_tuple_end (I.ok.hd hc) st (show s.heap.IsTuple a its.toArray from p) (by simp;omega) fun h' eb=>⟨rfl,I.turned (t':=s.toks) (fun b o hb e=>eb b o hb e) f0 f1 f3 f4 f5⟩
 self:=fun _ _ _ _ _ st h=>wpAny_pyIter_tupleiter st h
theorem nO {P:Program} {w:World} {K:PySem.W.Frag} {tg:Expr} (it:Addr) (lo:Int) (n:Nat):Turn P w K tg (Itr lo n) [it] it (fun i h=>IsRangeIter h it (lo+(i:Nat)*1) ((n:Int) - (i:Nat)) 1) where
 mem:=by simp
 obj:=fun i h st b hb=>by
  have e:b=it:=by simpa using hb
  subst e
  exact ⟨_,st,fun v z=>by
   have z':Data.fields _=Data.cell v:=z
   cases z'⟩
 keep:=fun i h h' st k=>k it (by simp) _ st
 item:=by
  intro X hP hw hK hc i pins s σ H E I hf st hg
  subst hP hw hK
  obtain ⟨f0,f1,f2,f3,f4,f5⟩:=hf it (by simp)
  have W:=Walks.range (prog:=X.prog) (w:=X.w) (I.ok.hd hc) it lo 1 n
  refine W.item i s _ _ hg st fun v h' tk hv st' kk=> ?_
  obtain ⟨t,rfl⟩:=hv
  have I1:Inv X pins σ H {s with heap:=h',toks:=tk}:=I.turned (fun b o hb e=>kk b o (by simpa using hb) e) f0 f1 f3 f4 f5
  refine ⟨_,rfl,uc (s:= {s with heap:=h',toks:=tk}) (n:="range_iterator") st' rfl rfl (by decide) ⟨.int (lo+i),H,I1,⟨t,?_⟩,⟨rfl,rfl⟩,st',fun b hb=>(hf b hb).1⟩⟩
  rw [Int.mul_one]
 done:=by
  intro X hP hw hK hc i pins s σ H E I hf st hg
  subst hP hw hK
  obtain ⟨f0,f1,f2,f3,f4,f5⟩:=hf it (by simp)
  exact wpAny_pyNext_range_end (I.ok.hd hc) st (by have:n≤i:=hg;omega) fun h' eb=>⟨rfl,I.turned (t':=s.toks) (fun b o hb e=>eb b o hb e) f0 f1 f3 f4 f5⟩
 self:=fun _ _ _ _ _ st h=>wpAny_pyIter_rangeiter st h
open PySem PySem.Spec PyProof.Rows
section
variable {X:Cx} {tg:Expr}
def wF (K:PySem.W.Frag) (tl:TE):TI:=fun σ H R=>tl σ H fun x H1=>∃a,x= .ref a∧(∃xs,SqL K H1 a xs)∧R (Itl K a) H1
def iTup (K:PySem.W.Frag) (tl:TE):TI:=fun σ H R=>tl σ H fun x H1=>∃a,x= .ref a∧(∃xs,SqT K H1 a xs)∧R (Itt K a) H1
theorem hU {l:Expr} {tl:TE} (hl:PE X l tl):PI X tg l (wF X.K tl):=by
 intro pins s σ H R I h
 refine thn (hl pins s σ H _ I h) fun v s1 ⟨x,H1,I1,r1,q1⟩=> ?_
 obtain ⟨a,e,⟨xs,hq⟩,q⟩:=q1
 subst e
 cases r1
 obtain ⟨its,rv,p,hz⟩:=I1.list hq
 refine wpAny_pyIter_list p.isList ?_
 refine ⟨s1.heap.objs.size,[s1.heap.objs.size],_,_,H1,rfl,I1.kept (t':=s1.toks) fun b o e=>Heap.get?_push_of_some _ e,qg a _,⟨_,Heap.get?_push_size _ rfl,rfl,rfl⟩,fun b hb=> ?_,q⟩
 have e:b=s1.heap.objs.size:=by simpa using hb
 subst e
 exact I1.fpOk (yZ _) (I1.hok.fresh (yZ _))
theorem cL {l:Expr} {tl:TE} (hl:PE X l tl):PI X tg l (iTup X.K tl):=by
 intro pins s σ H R I h
 refine thn (hl pins s σ H _ I h) fun v s1 ⟨x,H1,I1,r1,q1⟩=> ?_
 obtain ⟨a,e,⟨xs,hq⟩,q⟩:=q1
 subst e
 cases r1
 obtain ⟨its,rv,p,hz⟩:=I1.tuple hq
 refine wpAny_pyIter_tuple (show s1.heap.IsTuple a its.toArray from p) ?_
 refine ⟨s1.heap.objs.size,[s1.heap.objs.size],_,_,H1,rfl,I1.kept (t':=s1.toks) fun b o e=>Heap.get?_push_of_some _ e,nN a _,⟨_,Heap.get?_push_size _ rfl,rfl,rfl⟩,fun b hb=> ?_,q⟩
 have e:b=s1.heap.objs.size:=by simpa using hb
 subst e
 exact I1.fpOk (yZ _) (I1.hok.fresh (yZ _))
theorem ss {pins:List (Addr×Obj)} {σ:St} {H:Hp} {s:Shared} {R:It→Hp→Prop} {E:Value→Shared→Prop} {lo hi:Int} {t u v:Tok} {tk:Nat} (I:Inv X pins σ H s) (h1:-(2^62)≤lo) (h2:lo < 2^62) (h3:-(2^62)≤hi) (h4:hi < 2^62)
 (q:R (Itr lo (hi - lo).toNat) H):wpAny (model X.prog X.w) X.A (pyIter (.ref s.heap.objs.size)) (PIE X pins σ tg R) E {s with heap:=s.heap.push {cls:= .type "range",data:= .fields #[.int lo t, .int hi u, .int 1 v]},toks:=tk}:=by
 refine wpAny_pyIter_range (IsRange.new ..) (small_one h1 h2 h3 h4) ?_
 have I1:Inv X pins σ H {s with heap:=s.heap.push {cls:= .type "range",data:= .fields #[.int lo t, .int hi u, .int 1 v]},toks:=tk}:=I.kept fun b o e=>Heap.get?_push_of_some _ e
 refine ⟨(s.heap.push {cls:= .type "range",data:= .fields #[.int lo t, .int hi u, .int 1 v]}).objs.size,[(s.heap.push {cls:= .type "range",data:= .fields #[.int lo t, .int hi u, .int 1 v]}).objs.size],_,_,H,rfl,
  I1.kept (t':=tk) fun b o e=>Heap.get?_push_of_some _ e,nO _ lo (hi - lo).toNat,?_,fun b hb=> ?_,q⟩
 · have e1:lo+((0:Nat):Int)*1=lo:=by simp
   have e2:(((hi - lo).toNat:Nat):Int) - ((0:Nat):Int)=Builtin.Range.rangeSize lo hi 1:=by rw [rangeSize_one];split<;>omega
   show IsRangeIter _ _ (lo+((0:Nat):Int)*1) ((((hi - lo).toNat:Nat):Int) - ((0:Nat):Int)) 1
   rw [e1,e2]
   exact Heap.get?_push_size _ rfl
 · have e:b=(s.heap.push {cls:= .type "range",data:= .fields #[.int lo t, .int hi u, .int 1 v]}).objs.size:=by simpa using hb
   subst e
   exact I1.fpOk (yZ _) (I1.hok.fresh (yZ _))
def yP (ta:TA):TI:=fun σ H R=>ta σ H fun vs H1=>∃j:Int,vs= [.int j]∧ -(2^62)≤j∧j < 2^62∧R (Itr 0 j.toNat) H1
theorem di {a:Expr} {ta:TA} {p pos:Pos} (hg:Gl X "range") (hm:X.mg "range"=none) (ha:PA X [a] ta) (hs:starEach [a] X.env= [(false,eval a X.env)]:=by rfl):PI X tg (.Call (.Name "range" p) [a] [] pos) (yP ta):=by
 intro pins s σ H R I h
 refine Call_ (gy I hg hm boot_range (PyProof.Rows.callWith_type1 (thn (ha pos pins s σ H _ I h) fun us s1 ⟨vs,H1,I1,r1,q1⟩=> ?_) hs rfl))
 obtain ⟨j,e,q1,q2,q⟩:=q1
 subst e
 cases r1 with
 |cons r rr=>
  cases rr
  obtain ⟨t,rfl⟩:=r
  exact call_range_1 (ss I1 (by omega) (by omega) q1 q2 (by simpa using q))
def tFor (wi:TI) (g:TG) (tb:TS):TS:=fun D σ H=>wi σ H fun J H1=>∃W:Nat→Nat→St→Hp→Prop,(∃m,W 0 m σ H1)∧∀i m σ H,W i m σ H→
 (J.stop i H∧D.nx σ H)∨(J.go i H∧∃N:St→Hp→Prop,(∀σ' H',N σ' H'→∃m',m' < m∧W (i+1) m' σ' H')∧∀x H',J.yld i H x H'→g x σ H' fun σ2 H2=>tb {D with nx:=N,ct:=N,bk:=D.nx} σ2 H2)
noncomputable def iD (fp:List Addr) (h:Heap):List (Addr×Obj):=fp.filterMap fun b=>(h.get? b).map fun o=>(b,o)
theorem cS {fp:List Addr} {h:Heap} {b:Addr} {o:Obj} (hb:b∈fp) (e:h.get? b=some o):(b,o)∈iD fp h:=Ah.mpr ⟨b,hb,by rw [e];rfl⟩
theorem qz {fp:List Addr} {h:Heap} {p:Addr×Obj} (hp:p∈iD fp h):p.1∈fp∧h.get? p.1=some p.2:=by
 obtain ⟨b,hb,e⟩:=Ah.mp hp
 cases q:h.get? b with
 |none=>rw [q] at e;cases e
 |some o=>
  rw [q] at e
  have e':(b,o)=p:=zu e
  subst e'
  exact ⟨hb,q⟩
theorem Inv.pinned {pins:List (Addr×Obj)} {σ:St} {H:Hp} {s:Shared} {fp:List Addr} (I:Inv X pins σ H s) (hf:∀b∈fp,FpOk X pins H b) (ho:∀b∈fp,∃o,s.heap.get? b=some o∧∀v,o.data≠ .cell v):Inv X (pins++iD fp s.heap) σ H s:=
 I.pins_of fun p hp=>(zf.mp hp).elim (fun z=>I.pin p (zp _ z)) fun z=>by
  obtain ⟨hb,e⟩:=qz z
  obtain ⟨f0,f1,f2,_⟩:=hf p.1 hb
  obtain ⟨o,e',d⟩:=ho p.1 hb
  rw [e] at e';cases e'
  exact ⟨e,f0,f1,f2,d⟩
theorem Inv.unpinned {pins pl:List (Addr×Obj)} {σ:St} {H:Hp} {s:Shared} (I:Inv X (pins++pl) σ H s):Inv X pins σ H s:=I.pins_of fun p hp=>I.pin p (zp _ (zZ _ hp))
theorem gv {iter:Expr} {body:List Stmt} {wi:TI} {g:TG} {tb:TS} {pos:Pos} (hp:PassesOwn (model X.prog X.w) X.A X.env X.xe) (hc:X.calm=true) (hi:PI X tg iter wi) (hg:PG X tg g) (hb:PSs X body tb)
 (hs:∀x,foldedSetIterable iter X.env x=pure x:=by intro _;rfl):PS X (.For tg iter body [] pos) (tFor wi g tb):=by
 intro pins s σ H D I h
 refine wpAny_For (thn (hi pins s σ H _ I h) fun v s1 h1=>thn h1 fun itv s2 h2=> ?_) hs
 obtain ⟨it,fp,tn,J,H2,e,I2,T,st2,f2,W,⟨m0,w0⟩,turn⟩:=h2
 subst e
 have stat:∀ {H':Hp},(∀b∈fp,H' b=none)→∀b∈fp,FpOk X pins H' b:=fun hn b hb=>⟨hn b hb,(f2 b hb).2⟩
 refine codeAny_forLoop_any (fun n s'=>∃i σ' H',Inv X pins σ' H' s'∧tn i s'.heap∧(∀b∈fp,H' b=none)∧W i n σ' H') ?_ m0 ⟨0,σ,H2,I2,st2,fun b hb=>(f2 b hb).1,w0⟩
 rintro n s3 ⟨i,σ3,H3,I3,st3,fr3,w3⟩
 rcases turn i n σ3 H3 w3 with ⟨stop,qn⟩|⟨go,N,hN,step⟩
 · refine wpAny_passesOwn hp (thn (T.done X rfl rfl rfl hc i pins s3 σ3 H3 X.xe I3 (stat fr3) st3 stop) fun r s4 ⟨hr,I4⟩=> ?_)
   subst hr
   exact wpAny_execs_nil ⟨σ3,H3,I4,qn⟩
 · refine wpAny_passesOwn hp (thn (T.item X rfl rfl rfl hc i pins s3 σ3 H3 X.xe I3 (stat fr3) st3 go) fun r s4 ⟨u,hr,h4⟩=> ?_)
   subst hr
   refine wpAny_passesOwn hp (thn h4 fun _ s5 ⟨x,H5,I5,r5,y5,st5,fr5⟩=> ?_)
   have I5':=I5.pinned (stat fr5) (T.obj _ _ st5)
   refine wpAny_passesOwn hp (thn (hg _ s5 σ3 H5 x u _ I5' r5 (step x H5 y5)) fun _ s6 ⟨σ6,H6,I6,q6⟩=> ?_)
   refine wpAny_passesOwn hp (thn (hb _ s6 σ6 H6 _ I6 q6) fun f s7 q7=> ?_)
   have again:∀ {σ7:St} {H7:Hp},Inv X (pins++iD fp s5.heap) σ7 H7 s7→N σ7 H7→∃m,m < n∧∃i σ' H',Inv X pins σ' H' s7∧tn i s7.heap∧(∀b∈fp,H' b=none)∧W i m σ' H':=fun {σ7 H7} I7 n7=>by
    obtain ⟨m',hm,w7⟩:=hN σ7 H7 n7
    refine ⟨m',hm,i+1,σ7,H7,I7.unpinned,T.keep _ _ _ st5 fun b hb o e=>(I7.pin (b,o) (zp _ (zp _ (cS hb e)))).1,fun b hb=> ?_,w7⟩
    obtain ⟨o,e,d⟩:=T.obj _ _ st5 b hb
    exact (I7.pin (b,o) (zp _ (zp _ (cS hb e)))).2.1
   cases f with
   |next=>obtain ⟨σ7,H7,I7,n7⟩:=q7;exact again I7 n7
   |cont=>obtain ⟨σ7,H7,I7,n7⟩:=q7;exact again I7 n7
   |brk=>obtain ⟨σ7,H7,I7,q7⟩:=q7;exact ⟨σ7,H7,I7.unpinned,q7⟩
   |ret v=>obtain ⟨x7,σ7,H7,I7,r7,q7⟩:=q7;exact ⟨x7,σ7,H7,I7.unpinned,r7,q7⟩
end
theorem i6 {K:PySem.W.Frag} {a:Addr} {xs:List V} {g:TG} {tb:TS} {D:Ends} {σ:St} {H:Hp} (Pv:Nat→St→Hp→Prop) (h0:Pv 0 σ H) (hl:∀i σ H,i≤xs.length→Pv i σ H→SqL K H a xs)
 (hs:∀i x σ H,xs[i]?=some x→Pv i σ H→g x σ H fun σ2 H2=>tb {D with nx:=Pv (i+1),ct:=Pv (i+1),bk:=D.nx} σ2 H2) (hd:∀σ H,Pv xs.length σ H→D.nx σ H):
 ∃W:Nat→Nat→St→Hp→Prop,(∃m,W 0 m σ H)∧∀i m σ H,W i m σ H→
  ((Itl K a).stop i H∧D.nx σ H)∨((Itl K a).go i H∧∃N:St→Hp→Prop,(∀σ' H',N σ' H'→∃m',m' < m∧W (i+1) m' σ' H')∧∀x H',(Itl K a).yld i H x H'→g x σ H' fun σ2 H2=>tb {D with nx:=N,ct:=N,bk:=D.nx} σ2 H2):=by
 refine ⟨fun i m σ H=>m=xs.length - i∧i≤xs.length∧Pv i σ H,⟨xs.length,by simp,zG _,h0⟩,?_⟩
 rintro i m σ H ⟨rfl,hi,p⟩
 have q:=hl i σ H hi p
 by_cases hlt:i < xs.length
 · refine .inr ⟨⟨xs,xs[i],q,by simp [hlt]⟩,Pv (i+1),fun σ' H' p'=>⟨xs.length - (i+1),by omega,rfl,hlt,p'⟩,fun x H' y=> ?_⟩
   obtain ⟨e,y⟩:=y
   subst e
   exact hs i x σ _ (y xs q) p
 · have e:i=xs.length:=by omega
   subst e
   exact .inl ⟨⟨xs,q,yZ _⟩,hd σ H p⟩
theorem pM {K:PySem.W.Frag} {a:Addr} {xs:List V} {g:TG} {tb:TS} {D:Ends} {σ:St} {H:Hp} (Pv:Nat→St→Hp→Prop) (h0:Pv 0 σ H) (hl:∀i σ H,i≤xs.length→Pv i σ H→SqT K H a xs)
 (hs:∀i x σ H,xs[i]?=some x→Pv i σ H→g x σ H fun σ2 H2=>tb {D with nx:=Pv (i+1),ct:=Pv (i+1),bk:=D.nx} σ2 H2) (hd:∀σ H,Pv xs.length σ H→D.nx σ H):
 ∃W:Nat→Nat→St→Hp→Prop,(∃m,W 0 m σ H)∧∀i m σ H,W i m σ H→
  ((Itt K a).stop i H∧D.nx σ H)∨((Itt K a).go i H∧∃N:St→Hp→Prop,(∀σ' H',N σ' H'→∃m',m' < m∧W (i+1) m' σ' H')∧∀x H',(Itt K a).yld i H x H'→g x σ H' fun σ2 H2=>tb {D with nx:=N,ct:=N,bk:=D.nx} σ2 H2):=by
 refine ⟨fun i m σ H=>m=xs.length - i∧i≤xs.length∧Pv i σ H,⟨xs.length,by simp,zG _,h0⟩,?_⟩
 rintro i m σ H ⟨rfl,hi,p⟩
 have q:=hl i σ H hi p
 by_cases hlt:i < xs.length
 · refine .inr ⟨⟨xs,xs[i],q,by simp [hlt]⟩,Pv (i+1),fun σ' H' p'=>⟨xs.length - (i+1),by omega,rfl,hlt,p'⟩,fun x H' y=> ?_⟩
   obtain ⟨e,y⟩:=y
   subst e
   exact hs i x σ _ (y xs q) p
 · have e:i=xs.length:=by omega
   subst e
   exact .inl ⟨⟨xs,q,yZ _⟩,hd σ H p⟩
theorem jV {lo:Int} {n:Nat} {g:TG} {tb:TS} {D:Ends} {σ:St} {H:Hp} (Pv:Nat→St→Hp→Prop) (h0:Pv 0 σ H)
 (hs:∀i σ H,i < n→Pv i σ H→g (.int (lo+i)) σ H fun σ2 H2=>tb {D with nx:=Pv (i+1),ct:=Pv (i+1),bk:=D.nx} σ2 H2) (hd:∀σ H,Pv n σ H→D.nx σ H):
 ∃W:Nat→Nat→St→Hp→Prop,(∃m,W 0 m σ H)∧∀i m σ H,W i m σ H→
  ((Itr lo n).stop i H∧D.nx σ H)∨((Itr lo n).go i H∧∃N:St→Hp→Prop,(∀σ' H',N σ' H'→∃m',m' < m∧W (i+1) m' σ' H')∧∀x H',(Itr lo n).yld i H x H'→g x σ H' fun σ2 H2=>tb {D with nx:=N,ct:=N,bk:=D.nx} σ2 H2):=by
 refine ⟨fun i m σ H=>m=n - i∧i≤n∧Pv i σ H,⟨n,by simp,zG _,h0⟩,?_⟩
 rintro i m σ H ⟨rfl,hi,p⟩
 by_cases hlt:i < n
 · refine .inr ⟨hlt,Pv (i+1),fun σ' H' p'=>⟨n - (i+1),by omega,rfl,hlt,p'⟩,fun x H' y=> ?_⟩
   obtain ⟨e,y⟩:=y
   subst e y
   exact hs i σ _ hlt p
 · have e:i=n:=by omega
   subst e
   exact .inl ⟨yZ _,hd σ H p⟩
theorem qX {c:TT} {tb:TS} {D:Ends} {σ:St} {H:Hp} (Pv:St→Hp→Prop) (μ:St→Hp→Nat) (h0:Pv σ H)
 (hs:∀σ H,Pv σ H→c σ H fun b H1=>if b=true then tb {D with nx:=fun σ' H'=>Pv σ' H'∧μ σ' H' < μ σ H,ct:=fun σ' H'=>Pv σ' H'∧μ σ' H' < μ σ H,bk:=D.nx} σ H1 else D.nx σ H1)
 (mono:∀σ H Q Q',(∀b H1,Q b H1→Q' b H1)→c σ H Q→c σ H Q'):rH c tb D σ H:=by
 refine ⟨fun m σ H=>m=μ σ H∧Pv σ H,⟨_,rfl,h0⟩,?_⟩
 rintro m σ H ⟨rfl,p⟩
 refine mono σ H _ _ (fun b H1 q=> ?_) (hs σ H p)
 cases b with
 |true=>exact ⟨_,fun σ' H' ⟨p',l⟩=>⟨_,l,rfl,p'⟩,q⟩
 |false=>exact q
open PySem PySem.Spec PyProof.Rows
abbrev R2:=V→V→Hp→VK→Prop
def OpR (X:Cx) (f:Value→Value→Sem Value) (r:R2):Prop:=
 ∀(pins:List (Addr×Obj)) (s:Shared) (σ:St) (H:Hp) (x y:V) (v u:Value) (Q:VK),Inv X pins σ H s→RelV x v→RelV y u→r x y H Q→
  wpAny (model X.prog X.w) X.A (f v u) (EP X pins σ Q) X.xe s
def UnR (X:Cx) (f:Value→Sem Value) (r:V→Hp→VK→Prop):Prop:=
 ∀(pins:List (Addr×Obj)) (s:Shared) (σ:St) (H:Hp) (x:V) (v:Value) (Q:VK),Inv X pins σ H s→RelV x v→r x H Q→
  wpAny (model X.prog X.w) X.A (f v) (EP X pins σ Q) X.xe s
def dJ (X:Cx) (f:Value) (r:List V→Hp→VK→Prop):Prop:=
 ∀(pins:List (Addr×Obj)) (s:Shared) (σ:St) (H:Hp) (xs:List V) (us:List Value) (Q:VK),Inv X pins σ H s→Vals xs us→r xs H Q→
  wpAny (model X.prog X.w) X.A (call f us) (EP X pins σ Q) X.xe s
def TruR (X:Cx) (r:V→Hp→(Bool→Hp→Prop)→Prop):Prop:=
 ∀(pins:List (Addr×Obj)) (s:Shared) (σ:St) (H:Hp) (x:V) (v:Value) (Q:Bool→Hp→Prop),Inv X pins σ H s→RelV x v→r x H Q→
  wpAny (model X.prog X.w) X.A (truthy v) (TP X pins σ Q) X.xe s
def tOp (r:R2) (ta tb:TE):TE:=fun σ H Q=>ta σ H fun x H1=>tb σ H1 fun y H2=>r x y H2 Q
def tUn (r:V→Hp→VK→Prop) (ta:TE):TE:=fun σ H Q=>ta σ H fun x H1=>r x H1 Q
def rI (C:Int→Int→Prop) (g:Int→Int→V):R2:=fun x y H Q=>∃i j,x= .int i∧y= .int j∧C i j∧Q (g i j) H
def rI0 (g:Int→Int→V):R2:=fun x y H Q=>∃i j,x= .int i∧y= .int j∧Q (g i j) H
def rU (g:Int→V):V→Hp→VK→Prop:=fun x H Q=>∃i,x= .int i∧Q (g i) H
section
variable {X:Cx} {a b c:Expr} {ta tb tc:TE} {pos:Pos}
theorem binT (ha:PE X a ta) (hb:PE X b tb) {pins:List (Addr×Obj)} {s:Shared} {σ:St} {H:Hp} {R:V→V→Hp→Prop} (I:Inv X pins σ H s)
 (h:ta σ H fun x H1=>tb σ H1 fun y H2=>R x y H2) {Q:Value→Shared→Prop} {f:Value→Value→Sem Value}
 (hf:∀v u s2 x y H2,Inv X pins σ H2 s2→RelV x v→RelV y u→R x y H2→wpAny (model X.prog X.w) X.A (f v u) Q X.xe s2):
 wpAny (model X.prog X.w) X.A (eval a X.env) (fun v s₁=>wpAny (model X.prog X.w) X.A (eval b X.env) (fun u s₂=>wpAny (model X.prog X.w) X.A (f v u) Q X.xe s₂) X.xe s₁) X.xe s:=by
 refine thn (ha pins s σ H _ I h) fun v s1 ⟨x,H1,I1,r1,q1⟩=> ?_
 refine thn (hb pins s1 σ H1 _ I1 q1) fun u s2 ⟨y,H2,I2,r2,q2⟩=> ?_
 exact hf v u s2 x y H2 I2 r1 r2 q2
theorem aH {op:Operator} {r:R2} (ho:OpR X (binaryOp op) r) (ha:PE X a ta) (hb:PE X b tb):PE X (.BinOp a op b pos) (tOp r ta tb):=by
 intro pins s σ H Q I h
 exact wpAny_BinOp (binT ha hb I h fun v u s2 x y H2 I2 rx ry q=>ho pins s2 σ H2 x y v u Q I2 rx ry q)
theorem cW {op:UnaryOp} {r:V→Hp→VK→Prop} (ho:UnR X (unaryOp op) r) (ha:PE X a ta):PE X (.UnaryOp op a pos) (tUn r ta):=by
 intro pins s σ H Q I h
 exact UnaryOp_ (thn (ha pins s σ H _ I h) fun v s1 ⟨x,H1,I1,r1,q1⟩=>ho pins s1 σ H1 x v Q I1 r1 q1)
theorem opI {f:Value→Value→Sem Value} {C:Int→Int→Prop} {g:Int→Int→Int}
 (rule:∀(i j:Int) (t u:Tok) (s:Shared) (Q:Value→Shared→Prop) (E:Value→Shared→Prop),C i j→Q (.int (g i j) s.toks) {s with toks:=s.toks+1}→wpAny (model X.prog X.w) X.A (f (.int i t) (.int j u)) Q E s):
 OpR X f (rI C fun i j=> .int (g i j)):=by
 intro pins s σ H x y v u Q I rx ry h
 obtain ⟨i,j,rfl,rfl,hc,q⟩:=h
 obtain ⟨t,rfl⟩:=rx
 obtain ⟨t',rfl⟩:=ry
 exact rule i j t t' s _ _ hc ⟨.int (g i j),H,I.tok _,⟨_,rfl⟩,q⟩
theorem opI0 {f:Value→Value→Sem Value} {g:Int→Int→Int}
 (rule:∀(i j:Int) (t u:Tok) (s:Shared) (Q:Value→Shared→Prop) (E:Value→Shared→Prop),Q (.int (g i j) s.toks) {s with toks:=s.toks+1}→wpAny (model X.prog X.w) X.A (f (.int i t) (.int j u)) Q E s):
 OpR X f (rI0 fun i j=> .int (g i j)):=by
 intro pins s σ H x y v u Q I rx ry h
 obtain ⟨i,j,rfl,rfl,q⟩:=h
 obtain ⟨t,rfl⟩:=rx
 obtain ⟨t',rfl⟩:=ry
 exact rule i j t t' s _ _ ⟨.int (g i j),H,I.tok _,⟨_,rfl⟩,q⟩
theorem opB0 {f:Value→Value→Sem Value} {g:Int→Int→Bool}
 (rule:∀(i j:Int) (t u:Tok) (s:Shared) (Q:Value→Shared→Prop) (E:Value→Shared→Prop),Q (.bool (g i j)) s→wpAny (model X.prog X.w) X.A (f (.int i t) (.int j u)) Q E s):
 OpR X f (rI0 fun i j=> .bl (g i j)):=by
 intro pins s σ H x y v u Q I rx ry h
 obtain ⟨i,j,rfl,rfl,q⟩:=h
 obtain ⟨t,rfl⟩:=rx
 obtain ⟨t',rfl⟩:=ry
 exact rule i j t t' s _ _ ⟨.bl (g i j),H,I,rfl,q⟩
def CPow (i j:Int):Prop:=0≤j∧j≤1000000∧i.natAbs < 2^64
theorem bK:OpR X (binaryOp .Add) (rI0 fun i j=> .int (i+j)):=opI0 fun _ _ _ _ _ _ _ q=>add_int q
theorem o6:OpR X (binaryOp .Sub) (rI0 fun i j=> .int (i - j)):=opI0 fun _ _ _ _ _ _ _ q=>sub_int q
theorem f9:OpR X (binaryOp .Mod) (rI (fun _ j=>0 < j) fun i j=> .int (i%j)):=opI fun i j _ _ _ _ _ hc q=>by
 have h1:(0:Int) < j:=hc
 exact mod_int' (by omega) (by rw [Int.fmod_eq_emod_of_nonneg i (by omega)];exact q)
theorem vh:OpR X (binaryOp .Mod) (rI (fun _ j=>j≠0) fun i j=> .int (i.fmod j)):=opI fun _ _ _ _ _ _ _ hc q=>mod_int' hc q
theorem jg:OpR X (binaryOp .Pow) (rI CPow fun i j=> .int (i^j.toNat)):=opI fun _ _ _ _ _ _ _ hc q=>pow_int_small hc.1 hc.2.1 hc.2.2 q
theorem unI {f:Value→Sem Value} {g:Int→Int}
 (rule:∀(i:Int) (t:Tok) (s:Shared) (Q:Value→Shared→Prop) (E:Value→Shared→Prop),Q (.int (g i) s.toks) {s with toks:=s.toks+1}→wpAny (model X.prog X.w) X.A (f (.int i t)) Q E s):
 UnR X f (rU fun i=> .int (g i)):=by
 intro pins s σ H x v Q I rx h
 obtain ⟨i,rfl,q⟩:=h
 obtain ⟨t,rfl⟩:=rx
 exact rule i t s _ _ ⟨.int (g i),H,I.tok _,⟨_,rfl⟩,q⟩
theorem cq:UnR X (unaryOp .USub) (rU fun i=> .int (-i)):=unI fun _ _ _ _ _ q=>neg_int q
end
noncomputable def scal:V→V→Bool
 | .non, .non=>true| .non, .int _=>true| .int _, .non=>true| .non, .bl _=>true| .bl _, .non=>true| .non, .str _=>true| .str _, .non=>true
 | .int _, .int _=>true| .bl _, .bl _=>true| .str _, .str _=>true| .byt _, .byt _=>true
 | .int _, .str _=>true| .str _, .int _=>true| .bl _, .str _=>true| .str _, .bl _=>true
 |_,_=>false
def rEq:R2:=fun x y H Q=>scal x y=true∧Q (.bl (decide (x=y))) H
def rNe:R2:=fun x y H Q=>scal x y=true∧Q (.bl (!decide (x=y))) H
theorem pO {i j:Int}:decide (V.int i=V.int j)=(i==j):=by
 rw [Ak]
 simp
theorem uo {i j:Bool}:decide (V.bl i=V.bl j)=(i==j):=by
 rw [Ak]
 simp
theorem pN {i j:Str}:decide (V.str i=V.str j)=(i==j):=by
 rw [Ak]
 simp
theorem pP {i j:Array UInt8}:decide (V.byt i=V.byt j)=(i.toList==j.toList):=by
 rw [Ak]
 cases i
 cases j
 simp
section
variable {X:Cx} {a b c:Expr} {ta tb tc:TE} {pos:Pos}
theorem ba {pins:List (Addr×Obj)} {σ:St} {H:Hp} {s:Shared} {Q:VK} {k k':Bool} (I:Inv X pins σ H s) (q:Q (.bl k) H) (e:k=k'):EP X pins σ Q (.bool k') s:=by
 subst e
 exact ⟨.bl k,H,I,rfl,q⟩
theorem bY:OpR X (compareOp .Eq) rEq:=by
 intro pins s σ H x y v u Q I rx ry h
 obtain ⟨hs,q⟩:=h
 cases x with
 |non=>
  cases rx
  cases y with
  |non=>cases ry;exact PySem.EqNone.eq_none_none (ba I q (by simp))
  |bl j=>cases ry;exact PySem.EqNone.eq_none_bool (ba I q (by simp))
  |int j=>obtain ⟨t',rfl⟩:=ry;exact PySem.EqNone.eq_none_int (ba I q (by simp))
  |str j=>obtain ⟨t',rfl⟩:=ry;exact PySem.EqNone.eq_none_str (ba I q (by simp))
  |_=>exact absurd (show false=true from hs) zj
 |bl i=>
  cases rx
  cases y with
  |non=>cases ry;exact PySem.EqNone.eq_bool_none (ba I q (by simp))
  |bl j=>cases ry;exact eq_bool (ba I q uo)
  |str j=>obtain ⟨t',rfl⟩:=ry;exact PySem.EqMixed.eq_bool_str (ba I q (by simp))
  |_=>exact absurd (show false=true from hs) zj
 |int i=>
  obtain ⟨t,rfl⟩:=rx
  cases y with
  |non=>cases ry;exact PySem.EqNone.eq_int_none (ba I q (by simp))
  |int j=>obtain ⟨t',rfl⟩:=ry;exact eq_int (ba I q pO)
  |str j=>obtain ⟨t',rfl⟩:=ry;exact PySem.EqMixed.eq_int_str (ba I q (by simp))
  |_=>exact absurd (show false=true from hs) zj
 |str i=>
  obtain ⟨t,rfl⟩:=rx
  cases y with
  |non=>cases ry;exact PySem.EqNone.eq_str_none (ba I q (by simp))
  |bl j=>cases ry;exact PySem.EqMixed.eq_str_bool (ba I q (by simp))
  |int j=>obtain ⟨t',rfl⟩:=ry;exact PySem.EqMixed.eq_str_int (ba I q (by simp))
  |str j=>obtain ⟨t',rfl⟩:=ry;exact eq_str (ba I q pN)
  |_=>exact absurd (show false=true from hs) zj
 |byt i=>
  obtain ⟨t,rfl⟩:=rx
  cases y with
  |byt j=>obtain ⟨t',rfl⟩:=ry;exact PySem.W.eq_bytes (ba I q pP)
  |_=>exact absurd (show false=true from hs) zj
 |_=>cases y<;>exact absurd (show false=true from hs) zj
theorem mr:OpR X (compareOp .NotEq) rNe:=by
 intro pins s σ H x y v u Q I rx ry h
 obtain ⟨hs,q⟩:=h
 cases x with
 |non=>
  cases rx
  cases y with
  |non=>cases ry;exact PySem.EqNone.ne_none_none (ba I q (by simp))
  |bl j=>cases ry;exact PySem.EqNone.ne_none_bool (ba I q (by simp))
  |int j=>obtain ⟨t',rfl⟩:=ry;exact PySem.EqNone.ne_none_int (ba I q (by simp))
  |str j=>obtain ⟨t',rfl⟩:=ry;exact PySem.EqNone.ne_none_str (ba I q (by simp))
  |_=>exact absurd (show false=true from hs) zj
 |bl i=>
  cases rx
  cases y with
  |non=>cases ry;exact PySem.EqNone.ne_bool_none (ba I q (by simp))
  |bl j=>cases ry;exact ne_bool (ba I q (congrArg not uo))
  |str j=>obtain ⟨t',rfl⟩:=ry;exact PySem.EqMixed.ne_bool_str (ba I q (by simp))
  |_=>exact absurd (show false=true from hs) zj
 |int i=>
  obtain ⟨t,rfl⟩:=rx
  cases y with
  |non=>cases ry;exact PySem.EqNone.ne_int_none (ba I q (by simp))
  |int j=>obtain ⟨t',rfl⟩:=ry;exact ne_int (ba I q (congrArg not pO))
  |str j=>obtain ⟨t',rfl⟩:=ry;exact PySem.EqMixed.ne_int_str (ba I q (by simp))
  |_=>exact absurd (show false=true from hs) zj
 |str i=>
  obtain ⟨t,rfl⟩:=rx
  cases y with
  |non=>cases ry;exact PySem.EqNone.ne_str_none (ba I q (by simp))
  |bl j=>cases ry;exact PySem.EqMixed.ne_str_bool (ba I q (by simp))
  |int j=>obtain ⟨t',rfl⟩:=ry;exact PySem.EqMixed.ne_str_int (ba I q (by simp))
  |str j=>obtain ⟨t',rfl⟩:=ry;exact ne_str (ba I q (congrArg not pN))
  |_=>exact absurd (show false=true from hs) zj
 |byt i=>
  obtain ⟨t,rfl⟩:=rx
  cases y with
  |byt j=>obtain ⟨t',rfl⟩:=ry;exact PySem.W.ne_bytes (ba I q (congrArg not pP))
  |_=>exact absurd (show false=true from hs) zj
 |_=>cases y<;>exact absurd (show false=true from hs) zj
theorem pA:OpR X (compareOp .Lt) (rI0 fun i j=> .bl (decide (i < j))):=opB0 fun _ _ _ _ _ _ _ q=>lt_int q
theorem wx:OpR X (compareOp .LtE) (rI0 fun i j=> .bl (decide (i≤j))):=opB0 fun _ _ _ _ _ _ _ q=>le_int q
theorem gh:OpR X (compareOp .Gt) (rI0 fun i j=> .bl (decide (j < i))):=opB0 fun _ _ _ _ _ _ _ q=>gt_int q
theorem yw:OpR X (compareOp .GtE) (rI0 fun i j=> .bl (decide (j≤i))):=opB0 fun _ _ _ _ _ _ _ q=>ge_int q
theorem iF:OpR X (compareOp .Is) (fun x y H Q=>y= .non∧Q (.bl (decide (x= .non))) H):=by
 intro pins s σ H x y v u Q I rx ry h
 obtain ⟨rfl,q⟩:=h
 cases ry
 refine is_none_gen (ba I q ?_)
 cases x<;>first
  |(cases rx;rfl)
  |(obtain ⟨t,rfl⟩:=rx;rfl)
theorem aA (b:Expr) {op:CmpOp} (h:op≠ .In:=by decide) (h2:op≠ .NotIn:=by decide):behindInMarks op b=false:=by
 have e1:(op==CmpOp.In)=false:=by cases op<;>first|rfl|exact absurd rfl h
 have e2:(op==CmpOp.NotIn)=false:=by cases op<;>first|rfl|exact absurd rfl h2
 cases b<;>simp [behindInMarks,e1,e2]
theorem bJ {op:CmpOp} {r:R2} (ho:OpR X (compareOp op) r) (ha:PE X a ta) (hb:PE X b tb) (hm:behindInMarks op b=false):PE X (.Compare a [op] [b] pos) (tOp r ta tb):=by
 intro pins s σ H Q I h
 exact wpAny_Compare1 (binT ha hb I h fun v u s2 x y H2 I2 rx ry q=>ho pins s2 σ H2 x y v u Q I2 rx ry q) hm
def oU (t:TE):TT:=fun σ H Q=>t σ H fun x H'=>∃k,x= .bl k∧Q k H'
theorem aE {op:CmpOp} {r:R2} (ho:OpR X (compareOp op) r) (ha:PE X a ta) (hb:PE X b tb) (hm:behindInMarks op b=false):PT X (.Compare a [op] [b] pos) (oU (tOp r ta tb)):=by
 intro pins s σ H Q I h
 refine wpAny_isTrue_Compare1 (thn (ha pins s σ H _ I h) fun v s1 ⟨x,H1,I1,r1,q1⟩=>thn (hb pins s1 σ H1 _ I1 q1) fun u s2 ⟨y,H2,I2,r2,q2⟩=>
  thn (ho pins s2 σ H2 x y v u _ I2 r1 r2 q2) fun c s3 ⟨z,H3,I3,r3,k,e,q3⟩=> ?_) hm
 subst e
 cases r3
 exact wpAny_truthy_bool ⟨H3,I3,q3⟩
def wZ (r r':R2) (ta tb tc:TE):TE:=fun σ H Q=>ta σ H fun x H1=>tb σ H1 fun y H2=>r x y H2 fun z H3=>∃k,z= .bl k∧
 (if k=true then tc σ H3 fun w' H4=>r' y w' H4 Q else Q (.bl false) H3)
theorem sI {op op':CmpOp} {r r':R2} (ho:OpR X (compareOp op) r) (ho':OpR X (compareOp op') r') (ha:PE X a ta) (hb:PE X b tb) (hc:PE X c tc)
 (hm:lastMarks [op,op'] [b,c]=false:=by with_unfolding_all rfl):PT X (.Compare a [op,op'] [b,c] pos) (oU (wZ r r' ta tb tc)):=by
 intro pins s σ H Q I h
 refine isTrue_chain (thn (ha pins s σ H _ I h) fun v s1 ⟨x,H1,I1,r1,q1⟩=>test_link (thn (hb pins s1 σ H1 _ I1 q1) fun u s2 ⟨y,H2,I2,r2,q2⟩=>
  thn (ho pins s2 σ H2 x y v u _ I2 r1 r2 q2) fun d s3 ⟨z,H3,I3,r3,k,e,q3⟩=> ?_)) hm
 subst e
 cases r3
 refine wpAny_truthy_bool ?_
 cases k with
 |false=>
  obtain ⟨k',e',q'⟩:=q3
  cases e'
  exact ite_ff ⟨H3,I3,q'⟩
 |true=>
  refine ite_tt (test_last (thn (hc pins s3 σ H3 _ I3 q3) fun w' s4 ⟨z',H4,I4,r4,q4⟩=>thn (ho' pins s4 σ H4 y z' u w' _ I4 r2 r4 q4) fun d' s5 ⟨z2,H5,I5,r5,k2,e2,q5⟩=> ?_))
  subst e2
  cases r5
  exact wpAny_truthy_bool ⟨H5,I5,q5⟩
def TruV (K:PySem.W.Frag) (x:V) (H:Hp) (k:Bool):Prop:=
 match x with
 | .non=>k=false
 | .bl b=>k=b
 | .int i=>k=(i !=0)
 | .str y=>y.length≤sizeLine∧k=((y.length:Int) !=0)
 | .byt y=>y.size≤sizeLine∧k=((y.size:Int) !=0)
 | .ref p=>(∃xs,SqL K H p xs∧k= !xs.isEmpty)∨(∃xs,SqT K H p xs∧k= !xs.isEmpty)∨∃kvs,H p=some (.dK kvs)∧k= !kvs.isEmpty
 |_=>False
theorem oD {κ:Type} {kvs:List (κ×V)} {vs:List (κ×Value)} (r:KV kvs vs):(!vs.isEmpty)= !kvs.isEmpty:=by
 cases r<;>rfl
theorem jo {xs:List V} {its:List Value} (r:Vals xs its):(!its.toArray.isEmpty)= !xs.isEmpty:=by
 cases r<;>simp
theorem fo:(sizeLine:Nat) < 2^63:=by rw [sizeLine_eq];decide
theorem wU:TruR X (fun x H Q=>∃k,TruV X.K x H k∧Q k H):=by
 intro pins s σ H x v Q I rx h
 obtain ⟨k,e,q⟩:=h
 have hl:=fo
 have hs:sizeLine=16777216:=sizeLine_eq
 cases x with
 |non=>
  cases rx
  have e':k=false:=e
  subst e'
  exact truthy_none ⟨H,I,q⟩
 |bl b=>
  cases rx
  have e':k=b:=e
  subst e'
  exact wpAny_truthy_bool ⟨H,I,q⟩
 |int i=>
  obtain ⟨t,rfl⟩:=rx
  have e':k=(i !=0):=e
  subst e'
  exact PySem.P.truthy_int ⟨H,I,q⟩
 |str y=>
  obtain ⟨t,rfl⟩:=rx
  obtain ⟨hy,e'⟩:y.length≤sizeLine∧k=((y.length:Int) !=0):=e
  subst e'
  exact PySem.P.truthy_str (by omega) ⟨H,I.tok _,q⟩
 |byt y=>
  obtain ⟨t,rfl⟩:=rx
  obtain ⟨hy,e'⟩:y.size≤sizeLine∧k=((y.size:Int) !=0):=e
  subst e'
  exact PySem.W.truthy_bytes (by omega) ⟨H,I.tok _,q⟩
 |ref p=>
  cases rx
  have e':(∃xs,SqL X.K H p xs∧k= !xs.isEmpty)∨(∃xs,SqT X.K H p xs∧k= !xs.isEmpty)∨∃kvs,H p=some (.dK kvs)∧k= !kvs.isEmpty:=e
  rcases e' with ⟨xs,hx,e'⟩|⟨xs,hx,e'⟩|⟨kvs,hx,e'⟩
  · subst e'
    obtain ⟨its,r,pl,hz⟩:=I.list hx
    have hlen:=r.length
    exact wpAny_truthy_list pl.isList (by simp only [z5];omega) ⟨H,I.tok _,by rw [jo r];exact q⟩
  · subst e'
    obtain ⟨its,r,pl,hz⟩:=I.tuple hx
    have hlen:=r.length
    exact truthy_tuple pl (by simp only [z5];omega) ⟨H,I.tok _,by rw [jo r];exact q⟩
  · subst e'
    obtain ⟨hz,hS,vs,r,m⟩:kvs.length≤sizeLine∧(p==sysModules)=false∧∃vs,KV kvs vs∧s.heap.DictOf (dh X.prog X.w) p vs:=I.hok p _ hx
    have hlen:kvs.length=vs.length:=Paired.length r
    exact wpAny_truthy_dict hS m (by omega) ⟨H,I.tok _,by rw [oD r];exact q⟩
 |_=>exact (show False from e).elim
theorem lY (ha:PE X a ta) (he:∀whole,isTrue a X.env whole=(do let v←whole;standAt a.pos;holding [v] (truthy v))):
 PT X a (fun σ H Q=>ta σ H fun x H'=>∃k,TruV X.K x H' k∧Q k H'):=by
 intro pins s σ H Q I h
 exact isTrue_plain (thn (ha pins s σ H _ I h) fun v s1 ⟨x,H1,I1,r1,q1⟩=>wU pins s1 σ H1 x v Q I1 r1 q1) (he _)
theorem ji:OpR X (binaryOp .Add) (fun x y H Q=>∃i j,x= .str i∧y= .str j∧i.length+j.length≤sizeLine∧Q (.str (i++j)) H):=by
 intro pins s σ H x y v u Q I rx ry h
 obtain ⟨i,j,rfl,rfl,hz,q⟩:=h
 obtain ⟨t,rfl⟩:=rx
 obtain ⟨t',rfl⟩:=ry
 exact add_str (fun t' tk=>⟨.str (i++j),H,I.tok _,⟨_,rfl⟩,q⟩) hz
theorem eJ {x:V} {us:List Value} (r:Vals [x] us):∃u,us= [u]∧RelV x u:=by
 cases r with
 |cons r1 r2=>cases r2;exact ⟨_,rfl,r1⟩
theorem uB:dJ X (.builtin "abs") (fun xs H Q=>∃i,xs= [.int i]∧Q (.int (if i < 0 then -i else i)) H):=by
 intro pins s σ H xs us Q I r h
 obtain ⟨i,rfl,q⟩:=h
 obtain ⟨u,rfl,t,rfl⟩:=eJ r
 exact call_abs_int fun u tk=>⟨.int (if i < 0 then -i else i),H,I.tok _,⟨_,rfl⟩,q⟩
theorem qR:dJ X (.type "int") (fun xs H Q=>(∃i,xs= [.int i]∧Q (.int i) H)∨∃k,xs= [.bl k]∧Q (.int (if k then 1 else 0)) H):=by
 intro pins s σ H xs us Q I r h
 rcases h with ⟨i,rfl,q⟩|⟨k,rfl,q⟩
 · obtain ⟨u,rfl,t,rfl⟩:=eJ r
   exact call_int_int ⟨.int i,H,I,⟨_,rfl⟩,q⟩
 · obtain ⟨u,rfl,r1⟩:=eJ r
   cases r1
   exact call_int_bool ⟨.int (if k then 1 else 0),H,I.tok _,⟨_,rfl⟩,q⟩
end
open PySem PySem.Spec PyProof.Rows
structure ObjM (h:Heap) (x dx C:Addr) (mA:Str→Option Value):Prop where
 obj:h.get? x=some (PySem.W.instObj C dx)
 ns:h.Ns1 dx mA
 ne:dx≠x
theorem qD {h:Heap} {dx:Addr} {mA:Str→Option Value} (n:h.Ns1 dx mA):∃od,h.get? dx=some od∧∀name,PySem.W.lookIn name od=some (mA name):=by
 obtain ⟨o,es,ep,ho,hd,hk,_,hm⟩:=n
 refine ⟨o,ho,fun name=> ?_⟩
 have e:=hm name
 unfold nsFind findBy at e
 rw [←Array.find?_toList] at e
 unfold PySem.W.lookIn
 rw [hd]
 dsimp only
 split
 · rename_i y q
   rw [q] at e
   exact congrArg some e
 · rename_i q
   rw [q] at e
   have a:es.toList.any (·.refKey)=false:=by
    rw [List.any_eq_false]
    intro y hy
    obtain ⟨z,t,hkey⟩:=hk y (Array.mem_toList_iff.mp hy)
    simp [DictEntry.refKey,hkey]
   have a':¬es.toList.any (·.refKey)=true:=by rw [a];exact zj
   rw [if_neg a']
   exact congrArg some e
theorem ObjM.look {h:Heap} {x dx C:Addr} {mA:Str→Option Value} (I:ObjM h x dx C mA):∃od,PySem.W.InstAt h x (PySem.W.instObj C dx) C (some od)∧∀name,PySem.W.lookIn name od=some (mA name):=
 let ⟨od,ho,hl⟩:=qD I.ns
 ⟨od,⟨I.obj,rfl,rfl,ho⟩,hl⟩
section
variable {prog:Program} {w:World} {A:Around} {E:Value→Shared→Prop} {s:Shared} {K:PySem.W.Frag} {x dx C f:Addr} {mA:Str→Option Value} {name:Str} {v:Value}
end
section
variable {P:Program} {w:World} {H H':Hp} {h h':Heap} {a C dx:Addr} {fs fs':List (Str×V)}
theorem vL (hok:HOk P w H h) (e:H a=some (.ins C dx fs)):∃mA,ObjM h a dx C mA∧(∀f,RelO (fs.lookup f) (mA f))∧PySem.Within mA (fs.map (·.1))∧fs.length≤1000∧H dx=some (.own a):=by
 obtain ⟨d,z,ne,ob,mA,n,r,q⟩:=(show ObjOk P w H h a (.ins C dx fs) from hok a _ e)
 exact ⟨mA,⟨ob,n,ne⟩,r,q,z,d⟩
end
structure Cls (K:PySem.W.Frag) (C:Addr):Prop where
 pg:PySem.W.plainGet K C Str.empty=true
 hd:PySem.W.hasDictIn K C=true
 po:PySem.W.plainOver K C=true
 sa:PySem.W.findIn K (.ref C) "__setattr__"=some (some (.builtin "object.__setattr__"))
theorem Cls.get {K:PySem.W.Frag} {C:Addr} (c:Cls K C) (f:Str):PySem.W.plainGet K C f=true:=c.pg
section
variable {X:Cx} {pins:List (Addr×Obj)} {σ:St} {H:Hp} {s:Shared} {a C dx:Addr} {fs:List (Str×V)} {f:Str} {v:V} {A:Around} {E:Value→Shared→Prop}
theorem Inv.made (I:Inv X pins σ H s):Inv X pins σ (upd (upd H s.heap.objs.size (.own (s.heap.objs.size+1))) (s.heap.objs.size+1) (.ins C s.heap.objs.size []))
 {s with heap:=(s.heap.push PySem.W.emptyDict).push (PySem.W.instObj C s.heap.objs.size)}:=by
 have e1:(s.heap.push PySem.W.emptyDict).get? s.heap.objs.size=some PySem.W.emptyDict:=Heap.get?_push_size s.heap rfl
 have e2:((s.heap.push PySem.W.emptyDict).push (PySem.W.instObj C s.heap.objs.size)).get? (s.heap.objs.size+1)=some (PySem.W.instObj C s.heap.objs.size):=by
  have:=Heap.get?_push_size (s.heap.push PySem.W.emptyDict) (o:=PySem.W.instObj C s.heap.objs.size) rfl
  rwa [Heap.size_push] at this
 have e3:(s.heap.push PySem.W.emptyDict).Ns s.heap.objs.size (fun _=>none):=⟨PySem.W.emptyDict, #[],_,e1,rfl,(fun e he=>absurd he (by simp)),fun _=>rfl⟩
 have I1:=I.laid (a:=s.heap.objs.size) (o:= .own (s.heap.objs.size+1)) (h':=s.heap.push PySem.W.emptyDict) (t':=s.toks) (fun b u q=>Heap.get?_push_of_some _ q) (yZ _) ⟨_,e1⟩
 refine I1.laid (a:=s.heap.objs.size+1) (o:= .ins C s.heap.objs.size []) (t':=s.toks) (fun b u q=>Heap.get?_push_of_some _ q) (Nat.le_of_eq (Heap.size_push _ _)) ?_
 have ne:s.heap.objs.size≠s.heap.objs.size+1:=zg (Nat.lt_succ_self _)
 refine ⟨by rw [aG ne,aa],zG _,ne,e2,fun _=>none,(Heap.Ns1.of_empty e3).at fun o q=>Heap.get?_push_of_some _ q,fun _=>True.intro,fun y hy=>absurd rfl hy⟩
end
section
variable {X:Cx} {o e value:Expr} {f:Str} {pos pos' tpos:Pos} {ta tv:TE}
end
section
variable {X:Cx} {pins:List (Addr×Obj)} {σ:St} {H:Hp} {s:Shared} {A:Around} {E:Value→Shared→Prop} {Q:Value→Shared→Prop} {c:Value} {b:Bool}
inductive TyOf (K:PySem.W.Frag) (H:Hp):V→Value→Prop where
 |non:TyOf K H .non (.type "NoneType")
 |bl (x:Bool):TyOf K H (.bl x) (.type "bool")
 |int (i:Int):TyOf K H (.int i) (.type "int")
 |str (x:Str):TyOf K H (.str x) (.type "str")
 |flt (x:UInt64):TyOf K H (.flt x) (.type "float")
 |lst {a:Addr} {xs:List V} (e:H a=some (.lst xs)):TyOf K H (.ref a) (.type "list")
 |frz {a:Addr} {o:Obj} {xs:List V} (e:H a=some (.frz o (.lst xs))):TyOf K H (.ref a) (.type "list")
 |tup {a:Addr} {xs:List V} (e:H a=some (.tup xs)):TyOf K H (.ref a) (.type "tuple")
 |dK {a:Addr} {kvs:List (Key×V)} (e:H a=some (.dK kvs)):TyOf K H (.ref a) (.type "dict")
 |dT {a:Addr} {kvs:List (List Key×V)} (e:H a=some (.dT kvs)):TyOf K H (.ref a) (.type "dict")
 |ins {a C dx:Addr} {fs:List (Str×V)} (e:H a=some (.ins C dx fs)) (cl:Cls K C) (ha:PySem.W.findIn K (.ref C) "__class__"=some (some (.builtin "object.__class__")))
  (hn:PySem.W.specialIn K (.builtin "object.__class__") "__get__"=some (some (.builtin "getset_descriptor.__get__"))) (htk:PySem.W.takesIn K (.builtin "object.__class__")=some true)
  (hm:PySem.W.mroIn K C (.type "object")=some true):TyOf K H (.ref a) (.ref C)
end
open PySem PySem.Spec PyProof.Rows
structure Room (k:Nat) (A:Around):Prop where
 hd:A.handled=none
 dp:A.depth+3*k+5 < recursionLimit
 un:A.units+16*k+200 < cLine
 gd:A.guards=some []
theorem Room.mono {j k:Nat} {A:Around} (r:Room k A) (h:j≤k):Room j A:=⟨r.hd,by have:=r.dp;omega,by have:=r.un;omega,r.gd⟩
theorem Room.deeper {k:Nat} {A:Around} (r:Room (k+1) A) (env:Env):Room k (A.deeper env):=
 ⟨r.hd,by have:=r.dp;show A.depth+1+3*k+5 < _;omega,by have:=r.un;show A.units+3+16*k+200 < _;omega,by first|exact r.gd|(have:=r.gd;simpa [Around.deeper,Around.under] using this)⟩
theorem Room.in1 {k:Nat} {A:Around} (r:Room (k+1) A):Room k A.in1:=
 ⟨r.hd,by have:=r.dp;show A.depth+3*k+5 < _;omega,by have:=r.un;show A.units+1+16*k+200 < _;omega,r.gd⟩
theorem oo {A:Around} {C:Addr} {us:List Value} {kw:List (Str×Value)}:(A.under (.builtin "type.__call__" ⟨.ref C::us,kw⟩)).depth=A.depth+1:=by
 first|rfl|simp [Around.under,Code.weight,Code.isCreation,Code.isGuard,Code.isCaller,Code.frames,Code.isFrame,guardIds]
theorem om {A:Around} {C:Addr} {us:List Value} {kw:List (Str×Value)}:(A.under (.builtin "type.__call__" ⟨.ref C::us,kw⟩)).units=A.units+1:=by
 first|rfl|simp [Around.under,Code.cUnits,Code.frames,Code.isFrame]
theorem Room.make {k:Nat} {A:Around} (r:Room (k+1) A) (C:Addr) (us:List Value) (kw:List (Str×Value)):Room k (A.under (.builtin "type.__call__" ⟨.ref C::us,kw⟩)):=
 ⟨r.hd,by have:=r.dp;rw [oo];omega,by have:=r.un;rw [om];omega,by have:=r.gd;simp [Around.under,Code.guards,Code.isGuard,guardIds,pushGuards,this]⟩
theorem Room.depth {k:Nat} {A:Around} (r:Room k A):A.depth < recursionLimit:=by have:=r.dp;omega
theorem Room.units {k:Nat} {A:Around} (r:Room k A):A.units+64 < cLine:=by have:=r.un;omega
def tNil:TA:=fun _ H Q=>Q [] H
def cO (ta:TE) (tr:TA):TA:=fun σ H Q=>ta σ H fun x H1=>tr σ H1 fun xs H2=>Q (x::xs) H2
section
variable {X:Cx} {e:Expr} {es:List Expr} {te:TE} {t:TA} {pos:Pos}
theorem a9:PA X [] tNil:=fun _ _ _ _ H Q I h=>Calls.spliced_nil ⟨[],H,I, .nil,h⟩
theorem a8 (ha:PE X e te) (hr:PA X es t) (hs:starEach (e::es) X.env=(false,eval e X.env)::starEach es X.env:=by rfl):PA X (e::es) (cO te t):=by
 intro pos pins s σ H Q I h
 rw [hs]
 show wpAny _ _ (spliced ((false,eval e X.env)::backTo pos (starEach es X.env))) _ _ s
 refine Calls.spliced_cons (thn (ha pins s σ H _ I h) fun u s1 ⟨x,H1,I1,r1,q1⟩=> ?_)
 exact thn (hr pos pins s1 σ H1 _ I1 q1) fun us s2 ⟨xs,H2,I2,r2,q2⟩=>⟨x::xs,H2,I2, .cons r1 r2,q2⟩
def tTup (t:TA):TE:=fun σ H Q=>t σ H fun xs H1=>xs.length≤sizeLine∧∀p,H1 p=none→Q (.ref p) (upd H1 p (.tup xs))
def tLst (t:TA):TE:=fun σ H Q=>t σ H fun xs H1=>xs.length≤sizeLine∧∀p,H1 p=none→Q (.ref p) (upd H1 p (.lst xs))
theorem aB {x1} (h:PA X es t):PE X (.Tuple es x1 pos) (tTup t):=by
 intro pins s σ H Q I hq
 refine wpAny_Tuple_spliced (thn (h pos pins s σ H _ I hq) fun us s1 ⟨xs,H1,I1,r,z,q⟩=>⟨by rw [←r.length];exact z,?_⟩)
 have hf:H1 s1.heap.objs.size=none:=I1.hok.fresh (yZ _)
 refine ⟨.ref s1.heap.objs.size,upd H1 s1.heap.objs.size (.tup xs),I1.laid (t':=s1.toks) (fun b u e=>Heap.get?_push_of_some _ e) (yZ _) ?_,rfl,q _ hf⟩
 exact ⟨z,us,r,⟨_,Heap.get?_push_size _ rfl,rfl,_,rfl⟩⟩
theorem cG (h:PA X es t):PE X (.List es pos) (tLst t):=by
 intro pins s σ H Q I hq
 refine wpAny_List_spliced (thn (h pos pins s σ H _ I hq) fun us s1 ⟨xs,H1,I1,r,z,q⟩=>⟨by rw [←r.length];exact z,?_⟩)
 have hf:H1 s1.heap.objs.size=none:=I1.hok.fresh (yZ _)
 refine ⟨.ref s1.heap.objs.size,upd H1 s1.heap.objs.size (.lst xs),I1.laid (t':=s1.toks) (fun b u e=>Heap.get?_push_of_some _ e) (yZ _) ?_,rfl,q _ hf⟩
 exact ⟨z,us,0,r,Heap.get?_push_size _ rfl⟩
end
abbrev Sp:=List V→Hp→VK→XK→Prop
abbrev CXT:=List Env→Hp→Shared→XK→Value→Shared→Prop
structure Env0 (P:Program) (w:World) (K:PySem.W.Frag) (mg:Str→Option Value) (base:Heap) (A:Around) (outer:List Env) (s:Shared) (H:Hp):Prop where
 frames:A.frames=some outer
 mod:Mod K mg base
 bs:∀b o,base.get? b=some o→s.heap.get? b=some o∧Idl (H b)
 bsz:base.objs.size≤s.heap.objs.size
 funs:s.heap.FunFrames base outer
 frf:∀b∈frs outer,H b=none
 hok:HOk P w H s.heap
 bare:AllBare s.gens
def CE (outer:List Env) (P:Program) (w:World) (H:Hp) (s:Shared) (Q:VK) (u:Value) (s':Shared):Prop:=
 ∃v H',s'.os=s.os∧AllBare s'.gens∧Un (frs outer) [] H H' s.heap s'.heap∧HOk P w H' s'.heap∧RelV v u∧Q v H'
def CR (CX:CXT) (outer:List Env) (P:Program) (w:World) (H:Hp) (s:Shared) (Q:VK) (E:XK) (r:Result) (s':Shared):Prop:=
 match r with
 | .ok (.ret u)=>CE outer P w H s Q u s'
 | .ok _=>False
 | .error e=>CX outer H s E e s'
structure FnOk (P:Program) (w:World) (K:PySem.W.Frag) (mg:Str→Option Value) (base:Heap) (CX:CXT) (k:Nat) (f:Addr) (fd:FuncData) (ps:List Str) (sp:Sp):Prop where
 len:∀vs H Q E,sp vs H Q E→vs.length=ps.length
 run:∀(A:Around) (outer:List Env) (s:Shared) (H:Hp) (args:Args) (us:List Value) (vs:List V) (Q:VK) (E:XK),Room k A→Env0 P w K mg base A outer s H→BindsTo s fd args (ps.zip us)→Vals vs us→sp vs H Q E→
  codeAny (model P w) A (.call (.ref f) args) (CR CX outer P w H s Q E) s
theorem FnOk.imp {P:Program} {w:World} {K:PySem.W.Frag} {mg:Str→Option Value} {base:Heap} {CX:CXT} {k:Nat} {f:Addr} {fd:FuncData} {ps:List Str} {sp sp':Sp} (F:FnOk P w K mg base CX k f fd ps sp)
 (h:∀vs H Q E,sp' vs H Q E→sp vs H Q E):FnOk P w K mg base CX k f fd ps sp':=
 ⟨fun vs H Q E q=>F.len vs H Q E (h _ _ _ _ q),fun A outer s H args us vs Q E hr he hb hv hs=>F.run A outer s H args us vs Q E hr he hb hv (h _ _ _ _ hs)⟩
theorem Env0.make {P:Program} {w:World} {K:PySem.W.Frag} {mg:Str→Option Value} {base:Heap} {A:Around} {outer:List Env} {s:Shared} {H:Hp} (e:Env0 P w K mg base A outer s H) (C:Addr) (us:List Value) (kw:List (Str×Value)):
 Env0 P w K mg base (A.under (.builtin "type.__call__" ⟨.ref C::us,kw⟩)) outer s H:=⟨by first|exact e.frames|(simpa [Around.under,Code.envs,Code.isFrame,pushEnvs] using e.frames),e.mod,e.bs,e.bsz,e.funs,e.frf,e.hok,e.bare⟩
theorem Env0.in1 {P:Program} {w:World} {K:PySem.W.Frag} {mg:Str→Option Value} {base:Heap} {A:Around} {outer:List Env} {s:Shared} {H:Hp} (e:Env0 P w K mg base A outer s H):
 Env0 P w K mg base A.in1 outer s H:=⟨e.frames,e.mod,e.bs,e.bsz,e.funs,e.frf,e.hok,e.bare⟩
section
variable {X:Cx} {pins:List (Addr×Obj)} {σ:St} {H:Hp} {s s':Shared}
theorem Inv.env0 (I:Inv X pins σ H s):Env0 X.prog X.w X.K X.mg X.base X.A X.stack s H:=
 ⟨I.ok.frames,I.ok.mod,I.bs,zJ I.ok.bsz I.sz,I.stack,I.stkFree,I.hok,I.bare⟩
theorem Inv.after {Q:VK} {u:Value} (I:Inv X pins σ H s) (h:CE X.stack X.prog X.w H s Q u s'):EP X pins σ Q u s':=by
 obtain ⟨v,H',os,bare,un,hok,r,q⟩:=h
 obtain ⟨hh,g,d,t,os'⟩:=s'
 obtain rfl:os'=s.os:=os
 exact ⟨v,H',I.call (h':=hh) (g':=g) (d':=d) (t':=t) (ch:= []) un hok bare (fun b z=>absurd z (by simp)),r,q⟩
end
def wk (sp:Sp) (dvs:List V) (E:XK) (t:TA):TE:=fun σ H Q=>t σ H fun vs H1=>sp (vs++dvs) H1 Q E
def Binds (K:PySem.W.Frag) (fd:FuncData) (ps:List Str) (ds:List Value):Prop:=
 ∀(s:Shared) (us:List Value),K.In s.heap→(us++ds).length=ps.length→BindsTo s fd ⟨us,[]⟩ (ps.zip (us++ds))
theorem Binds.all {K:PySem.W.Frag} {fd:FuncData} {ps:List Str} (h:∀us:List Value,us.length=ps.length→bindArgs fd ⟨us,[]⟩=pure (ps.zip us)):Binds K fd ps []:=fun s us _ hl=>by
 rw [A0] at hl ⊢
 exact .of_eq (h us hl)
def iJ (CX:CXT) (X:Cx) (E:XK):Prop:=∀(pins:List (Addr×Obj)) (σ:St) (H:Hp) (s:Shared) (e:Value) (s':Shared),Inv X pins σ H s→CX X.stack H s E e s'→X.xe e s'
section
variable {X:Cx} {CX:CXT} {k:Nat} {f C:Addr} {fd:FuncData} {ps:List Str} {sp:Sp} {dvs:List V} {ds:List Value} {E:XK} {x m:Str} {p pos apos:Pos} {e o:Expr} {es:List Expr} {ta:TE} {t:TA}
theorem xg {pins:List (Addr×Obj)} {σ:St} {H:Hp} {s:Shared} {Q:VK} {us:List Value} {vs:List V} (F:FnOk X.prog X.w X.K X.mg X.base CX k f fd ps sp) (hr:Room k X.A) (hb:Binds X.K fd ps ds) (hd:Vals dvs ds) (hx:iJ CX X E)
 (I:Inv X pins σ H s) (r:Vals vs us) (h:sp (vs++dvs) H Q E):wpAny (model X.prog X.w) X.A (call (.ref f) us) (EP X pins σ Q) X.xe s:=by
 have r2:Vals (vs++dvs) (us++ds):=r.append hd
 have hl:(us++ds).length=ps.length:=by rw [←r2.length];exact F.len _ _ _ _ h
 refine wpAny_call (codeAny_mono (F.run X.A X.stack s H ⟨us,[]⟩ (us++ds) (vs++dvs) Q E hr I.env0 (hb s us I.kIn hl) r2 h) fun r s' hq=> ?_)
 cases r with
 |error e=>exact hx pins σ H s e s' I hq
 |ok fl=>
  cases fl with
  |ret u=>exact I.after hq
  |next=>exact False.elim hq
  |brk=>exact False.elim hq
  |cont=>exact False.elim hq
theorem ai (F:FnOk X.prog X.w X.K X.mg X.base CX k f fd ps sp) (hr:Room k X.A) (hg:Gl X x) (hm:X.mg x=some (.ref f)) (hk:PySem.W.keepIn X.K (.ref f)=true) (hb:Binds X.K fd ps ds) (hd:Vals dvs ds) (hx:iJ CX X E)
 (ha:PA X (e::es) t) (hdb:(x==("__debug__":Str))=false:=by decide) (he:starEach (e::es) X.env=(false,eval e X.env)::starEach es X.env:=by rfl) (hpl:(backTo pos (starEach es X.env)).any (·.1)=false:=by rfl):
 PE X (.Call (.Name x p) (e::es) [] pos) (wk sp dvs E t):=by
 intro pins s σ H Q I h
 refine wpAny_Call_Name_kw (g6 I hg hm ?_ hdb)
 refine PySem.W.callWith_K (h₀:=X.base) I.ok.mod.kin hk (thn (ha pos pins s σ H _ I h) fun us s1 ⟨vs,H1,I1,r,q⟩=>⟨I1.kIn,?_⟩) he hpl
 exact xg F hr hb hd hx I1 r q
end
section
variable {X:Cx} {CX:CXT} {k:Nat} {f C:Addr} {fd:FuncData} {ps ks:List Str} {sp:Sp} {E:XK} {x m:Str} {p pos apos kpos:Pos} {e o:Expr} {es:List Expr} {kws:List Keyword} {te ta:TE} {t tk:TA} {nm:Option Str}
variable {g:List Value→List Value→List Value} {gV:List V→List V→List V}
end
structure aD (N P:List Str) (sc:Scope):Prop where
 kind:sc.kind= .function
 co:sc.isCoroutine=false
 gen:sc.isGenerator=false
 nd:N.Nodup
 pre:N.take P.length=P
 par:∀x∈P,sc.names.lookup x=some .local∨sc.names.lookup x=some .cell
 nofree:∀y∈sc.names,y.2≠ .free
theorem k4 {kindOf:Str→Option NameKind} {x:Str}:∀ {binds:List (Str×Value)} {m:Str→Option Value},(∀v,(x,v)∉binds)→bindL kindOf binds m x=m x
 | [],_,_=>rfl
 |(n,v)::r,m,h=>by
  unfold bindL
  rw [k4 fun w hw=>h w (z6 _ hw)]
  split
  · have:x≠n:=by rintro rfl;exact h v yY
    simp [this]
  · rfl
theorem k7 {kindOf:Str→Option NameKind} {x:Str}:∀ {binds:List (Str×Value)} {m:Str→Option Value},(∀v,(x,v)∉binds)→bindC kindOf binds m x=m x
 | [],_,_=>rfl
 |(n,v)::r,m,h=>by
  unfold bindC
  rw [k7 fun w hw=>h w (z6 _ hw)]
  split
  · rfl
  · have:x≠n:=by rintro rfl;exact h v yY
    simp [this]
theorem k6 {kindOf:Str→Option NameKind} {x:Str} {v:Value}:∀ {P:List Str} {vs:List Value} {i:Nat} {m:Str→Option Value},P.Nodup→P[i]?=some x→vs[i]?=some v→kindOf x=some .local→
 bindL kindOf (P.zip vs) m x=some v
 | [],_,_,_,_,h,_,_=>by simp at h
 |_::_,[],_,_,_,_,h,_=>by simp at h
 |p::P,w::vs,0,m,nd,h1,h2,hk=>by
  simp at h1 h2;subst h1;subst h2
  show bindL kindOf ((p,w)::P.zip vs) m p=_
  unfold bindL
  rw [k4 fun v hv=>(zU.mp nd).1 (List.of_mem_zip hv).1,if_pos hk]
  simp
 |p::P,w::vs,i+1,m,nd,h1,h2,hk=>by
  show bindL kindOf ((p,w)::P.zip vs) m x=_
  unfold bindL
  exact k6 (i:=i) (zU.mp nd).2 (by simpa using h1) (by simpa using h2) hk
theorem k8 {kindOf:Str→Option NameKind} {x:Str} {v:Value}:∀ {P:List Str} {vs:List Value} {i:Nat} {m:Str→Option Value},P.Nodup→P[i]?=some x→vs[i]?=some v→kindOf x≠some .local→
 bindC kindOf (P.zip vs) m x=some v
 | [],_,_,_,_,h,_,_=>by simp at h
 |_::_,[],_,_,_,_,h,_=>by simp at h
 |p::P,w::vs,0,m,nd,h1,h2,hk=>by
  simp at h1 h2;subst h1;subst h2
  show bindC kindOf ((p,w)::P.zip vs) m p=_
  unfold bindC
  rw [k7 fun v hv=>(zU.mp nd).1 (List.of_mem_zip hv).1,if_neg hk]
  simp
 |p::P,w::vs,i+1,m,nd,h1,h2,hk=>by
  show bindC kindOf ((p,w)::P.zip vs) m x=_
  unfold bindC
  exact k8 (i:=i) (zU.mp nd).2 (by simpa using h1) (by simpa using h2) hk
noncomputable def eQ (N:List Str) (vs:List V):St:=vs.map some++List.replicate (N.length - vs.length) none
noncomputable def cxOf (CX:CXT) (P:Program) (w:World) (K:PySem.W.Frag) (mg:Str→Option Value) (base:Heap) (N:List Str) (qual:Str) (scope:Scope) (f:Addr) (cd:Value) (A:Around) (outer:List Env) (s:Shared) (H:Hp) (E:XK):Cx where
 prog:=P
 w:=w
 K:=K
 mg:=mg
 base:=base
 A:=A.deeper (envOfC qual scope s.heap.objs.size f cd)
 N:=N
 s₀:=s
 H₀:=H
 env:=envOfC qual scope s.heap.objs.size f cd
 outer:=outer
 stack:=envOfC qual scope s.heap.objs.size f cd::outer
 ex:= []
 calm:=true
 fn:=fun _=>true
 pn:= []
 xe:=fun e s'=>wpAny (model P w) (A.deeper (envOfC qual scope s.heap.objs.size f cd)) (leaving (envOfC qual scope s.heap.objs.size f cd) e) (fun _ s''=>CX outer H s E e s'') (fun e' s''=>CX outer H s E e' s'') s'
theorem nF {sc:Scope} {n:Nat} {x:Str} (h:sc.names.lookup x=some .cell):∃c,(cellsFrom n sc.names []).lookup x=some c:=by
 have q:=PySem.W.cellsFrom_some sc.names n [] (.inl h)
 exact Option.isSome_iff_exists.mp q
theorem jU {CX:CXT} {P:Program} {w:World} {K:PySem.W.Frag} {mg:Str→Option Value} {base:Heap} {N ps:List Str} {qual:Str} {scope:Scope} {f:Addr} {cd:Value} {A:Around} {outer:List Env} {s s1:Shared} {H:Hp} {E:XK} {us:List Value} {vs:List V}
 (S:aD N ps scope) (hd:A.handled=none) (e0:Env0 P w K mg base A outer s H) (hl:vs.length=ps.length) (r:Vals vs us)
 (x:InCallC s s.heap.objs.size (bindL (envOfC qual scope s.heap.objs.size f cd).kindOf (ps.zip us) fun _=>none) (cellsFrom (s.heap.objs.size+1) scope.names []) (bindC (envOfC qual scope s.heap.objs.size f cd).kindOf (ps.zip us) fun _=>none) s1):
 Inv (cxOf CX P w K mg base N qual scope f cd A outer s H E) [] (eQ N vs) H s1:=by
 have hpl:ps.length≤N.length:=by have:=congrArg List.length S.pre;rw [zm] at this;omega
 obtain ⟨h1,tk,rfl,hk⟩:=x.done
 have noA:∀b:Addr,b∉(cxOf CX P w K mg base N qual scope f cd A outer s H E).ex:=fun b z=>absurd (show b∈([]:List Addr) from z) (by simp)
 refine ⟨⟨e0.mod,S.kind,rfl,rfl,yZ _,fun y z c h1 h2=> ?_,fun y hy=> ?_,fun y c _ h=> ?_,fun _=>hd,Around.frames_deeper e0.frames, .inr ⟨rfl,rfl⟩,fun b z=>absurd z (noA b),e0.bs,e0.bsz,fun b _ _=>noA b,fun b z=>absurd z (noA b),e0.funs,e0.frf⟩,
  rfl,e0.bare,Un.kept hk,⟨_,x.toInCall.ns,fun i y v h1 h2 h3=> ?_⟩,fun y c h=>⟨_,x.cell y c h⟩,e0.hok.fresh (yZ _),fun y c h=> ?_,fun p hp=>absurd (show p∈([]:List (Addr×Obj)) from hp) (by simp),e0.hok.kept hk,?_⟩
 · exact name_of_addr x.apart (PySem.mem_of_lookup h1) (PySem.mem_of_lookup h2)
 · have hy:scope.names.lookup y=some .cell∨scope.names.lookup y=some .free:=hy
   rcases hy with hy|hy
   · exact nF hy
   · exact absurd rfl (S.nofree _ (PySem.mem_of_lookup hy))
 · exact Nat.le_of_lt (x.above y c (PySem.mem_of_lookup h))
 · have hi:i < vs.length:=by
    unfold eQ at h2
    by_cases hi:i < vs.length
    · exact hi
    · rw [A5 (by simpa using hi)] at h2
      rw [List.getElem?_replicate] at h2
      split at h2<;>cases h2
   have ha:vs[i]?=some v:=by
    unfold eQ at h2
    rw [zV (by simpa using hi),zF] at h2
    cases e:vs[i]? with
    |none=>rw [e] at h2;cases h2
    |some a=>rw [e] at h2;cases h2;rfl
   obtain ⟨u,hu,rv⟩:=r.get ha
   have hp:ps[i]?=some y:=by
    rw [←S.pre,List.getElem?_take_of_lt (by omega)];exact h1
   have ndP:ps.Nodup:=by rw [←S.pre];exact S.nd.sublist (List.take_sublist _ _)
   refine ⟨u,rv,?_⟩
   rcases S.par y (z7 hp) with k|k
   · exact .inl ⟨k,k6 ndP hp hu k⟩
   · obtain ⟨c,e⟩:=nF (n:=s.heap.objs.size+1) k
     refine .inr ⟨.inl k,c,e,?_⟩
     have q:=x.cell y c e
     rw [k8 ndP hp hu (by show scope.names.lookup y≠_;rw [k];decide)] at q
     exact q
 · exact e0.hok.fresh (Nat.le_of_lt (x.above y c (PySem.mem_of_lookup h)))
 · unfold eQ
   show _=N.length
   rw [z9,yW,Ai]
   omega
theorem wH {CX:CXT} {P:Program} {w:World} {K:PySem.W.Frag} {mg:Str→Option Value} {base:Heap} {k:Nat} {f:Addr} {name qual:Str} {params:Arguments} {body:List Stmt} {scope:Scope} {dV kV doc pm cdv ct oc:Value} {an od:Option Addr}
 {osl:Array (Option Value)} {N ps:List Str} {sp:Sp} (lk:K.lookup f=some ⟨oc,od, .func (PySem.W.fnOf name qual params body scope dV kV doc pm an cdv ct),osl⟩) (hcd:PySem.W.codeIn K cdv qual=true) (S:aD N ps scope)
 (len:∀vs H Q E,sp vs H Q E→vs.length=ps.length)
 (hbody:∀(A:Around) (outer:List Env) (s:Shared) (H:Hp) (vs:List V) (Q:VK) (E:XK),Room k (A.deeper (envOfC qual scope s.heap.objs.size f cdv))→sp vs H Q E→
  ∃t,PSs (cxOf CX P w K mg base N qual scope f cdv A outer s H E) body t∧t {nx:=fun _ H'=>Q .non H',rt:=Q} (eQ N vs) H):
 FnOk P w K mg base CX (k+1) f (PySem.W.fnOf name qual params body scope dV kV doc pm an cdv ct) ps sp:=by
 refine ⟨len,fun A outer s H args us vs Q E hr e0 hb r hsp=> ?_⟩
 have hl:=len _ _ _ _ hsp
 have KX:K.In s.heap:=e0.mod.kin.keeps fun b o e=>(e0.bs b o e).1
 have lim:s.heap.NoLimit:=e0.mod.nolimit.keeps fun b o e=>(e0.bs b o e).1
 have hkind:∀y∈ps.zip us,scope.names.lookup y.1=some .local∨(scope.names.lookup y.1=some .cell∧((cellsFrom (s.heap.objs.size+1) scope.names []).lookup y.1).isSome=true):=fun ⟨n,v⟩ hy=>by
  rcases S.par n (List.of_mem_zip hy).1 with q|q
  · exact .inl q
  · exact .inr ⟨q,PySem.W.cellsFrom_some _ _ _ (.inl q)⟩
 refine codeAny_call_function hr.depth (KX _ _ lk) rfl S.co S.gen rfl (PySem.W.codeRec_of KX hcd) (hb _ _ _ _ ?_)
 refine wpAny_newFunctionEnv_cells S.kind hkind fun env he s1 x=> ?_
 subst he
 refine ⟨lim.keeps x.toInCall.keep,codeAny_func ?_⟩
 obtain ⟨t,ht,hq⟩:=hbody A outer s H vs Q E (hr.deeper _) hsp
 have I:Inv (cxOf CX P w K mg base N qual scope f cdv A outer s H E) [] (eQ N vs) H s1:=jU S hr.hd e0 hl r x
 refine wpAny_mono (ht [] s1 (eQ N vs) H _ I hq) (fun fl s' hs=> ?_) fun e s' hs=>hs
 have fin:∀ {σ':St} {H':Hp} {v:V} {u:Value},Inv (cxOf CX P w K mg base N qual scope f cdv A outer s H E) [] σ' H' s'→RelV v u→Q v H'→CE outer P w H s Q u s':=
  fun {σ' H' v u} J rv q=>⟨v,H',J.os,J.bare,J.base,J.hok,rv,q⟩
 cases fl with
 |ret u=>
  obtain ⟨v,σ',H',J,rv,q⟩:=hs
  exact fin J rv q
 |next=>
  obtain ⟨σ',H',J,q⟩:=hs
  exact fin (v:=V.non) (u:=Value.none) J rfl q
 |brk=>
  obtain ⟨_,_,_,q⟩:=hs
  exact False.elim q
 |cont=>
  obtain ⟨_,_,_,q⟩:=hs
  exact False.elim q
open PySem PySem.Spec PyProof.Rows
section
variable {X:Cx} {x:Str} {p pos:Pos} {e:Expr} {es:List Expr} {t:TA} {id T:String} {r:List V→Hp→VK→Prop}
def tCB (r:List V→Hp→VK→Prop) (t:TA):TE:=fun σ H Q=>t σ H fun vs H1=>r vs H1 Q
theorem ar (hc:dJ X (.builtin id) r) (hg:Gl X x) (hm:X.mg x=none) (hv:bootBuiltins x=some (.builtin id)) (ha:PA X (e::es) t) (hn:x≠"__name__":=by decide) (hdb:(x==("__debug__":Str))=false:=by decide)
 (he:starEach (e::es) X.env=(false,eval e X.env)::starEach es X.env:=by rfl) (hpl:(backTo pos (starEach es X.env)).any (·.1)=false:=by rfl):PE X (.Call (.Name x p) (e::es) [] pos) (tCB r t):=by
 intro pins s σ H Q I h
 refine wpAny_Call_Name_kw (gy I hg hm hv ?_ hn hdb)
 exact PyProof.Rows.callWith_builtin1 (thn (ha pos pins s σ H _ I h) fun us s1 ⟨vs,H1,I1,r1,q1⟩=>hc pins s1 σ H1 vs us Q I1 r1 q1) he hpl
theorem cn (hc:dJ X (.type T) r) (hg:Gl X x) (hm:X.mg x=none) (hv:bootBuiltins x=some (.type T)) (ha:PA X (e::es) t) (hn:x≠"__name__":=by decide) (hdb:(x==("__debug__":Str))=false:=by decide)
 (he:starEach (e::es) X.env=(false,eval e X.env)::starEach es X.env:=by rfl) (hpl:(backTo pos (starEach es X.env)).any (·.1)=false:=by rfl):PE X (.Call (.Name x p) (e::es) [] pos) (tCB r t):=by
 intro pins s σ H Q I h
 refine wpAny_Call_Name_kw (gy I hg hm hv ?_ hn hdb)
 exact PyProof.Rows.callWith_type1 (thn (ha pos pins s σ H _ I h) fun us s1 ⟨vs,H1,I1,r1,q1⟩=>hc pins s1 σ H1 vs us Q I1 r1 q1) he hpl
end
end L2
namespace HT
open PySem PyProof.Rows
section
open PySem.SeqAt
open PySem.AutoSeq1 (wpAny_loadPart')
open PySem.MeetsSeq PySem.MeetsSeq2 PySem.MeetsSeq3
end
section
variable {prog:Program} {w:World} {A:Around} {E:Value→Shared→Prop} {s:Shared}
theorem cat_tup {t b:Addr} {vs ws:List Value} {Q:Value→Shared→Prop} (ht:IsTup s.heap t vs.toArray) (hb:IsTup s.heap b ws.toArray) (hv:vs≠ [])
 (h1:ws= []→Q (.ref t) s) (h2:ws≠ []→Q (.ref s.heap.objs.size) {s with heap:=s.heap.push {cls:= .type "tuple",data:= .seq (vs++ws).toArray}})
 (hsz:vs.length+ws.length≤sizeLine):wpAny (model prog w) A (binaryOp .Add (.ref t) (.ref b)) Q E s:=by
 obtain ⟨⟨cls,dd,data,sl⟩,ho,hc,n,hd⟩:=id ht
 obtain ⟨⟨cls2,dd2,data2,sl2⟩,ho2,hc2,n2,hd2⟩:=id hb
 simp only at hc hd hc2 hd2
 subst hc hd hc2 hd2
 have e:vs.toArray++ws.toArray=(vs++ws).toArray:=by simp
 by_cases hw:ws= []
 · exact concat_meets ⟨_,ho,rfl⟩ ⟨_,ho2,rfl⟩ noFill_tuple_add seq_tuple_add PySem.F.slot_tuple_add PySem.F.entry_tuple_add (PySem.F.args_tuple_add_2 _ _)
    (tuple_addW1 t b vs.toArray ws.toArray n n2 dd dd2 sl sl2 (by simpa using hv) (by simp [hw])) ⟨ho,ho2,h1 hw⟩
 · refine concat_meets ⟨_,ho,rfl⟩ ⟨_,ho2,rfl⟩ noFill_tuple_add seq_tuple_add PySem.F.slot_tuple_add PySem.F.entry_tuple_add (PySem.F.args_tuple_add_2 _ _)
    (tuple_addW2 t b vs.toArray ws.toArray n n2 dd dd2 sl sl2 (by simpa using hv) (by simpa using hw) (by rw [z5,z5];exact hsz)) ⟨ho,ho2,?_⟩
   rw [e]
   exact h2 hw
noncomputable def sIx (n d:Nat):Option Int→Nat
 |none=>d
 |some v=>if v < 0 then (v+(n:Int)).toNat else min v.toNat n
theorem sIx_none (n d:Nat):sIx n d none=d:=rfl
theorem sIx_nat (n d k:Nat):sIx n d (some (k:Int))=min k n:=by
 show (if (k:Int) < 0 then ((k:Int)+(n:Int)).toNat else min (k:Int).toNat n)=min k n
 rw [if_neg (by omega),Int.toNat_natCast]
theorem xb (n d:Nat) (hd:d≤n) (o:Option Int):sIx n d o≤n:=by
 cases o with
 |none=>exact hd
 |some v=>
  show (if v < 0 then (v+(n:Int)).toNat else min v.toNat n)≤n
  by_cases hv:v < 0
  · rw [if_pos hv];omega
  · rw [if_neg hv];exact Nat.min_le_right _ _
theorem pU (v:Int) (n d:Nat):(if v < 0 then max (v+(n:Int)) 0 else min v (n:Int))=((sIx n d (some v):Nat):Int):=by
 show (if v < 0 then max (v+(n:Int)) 0 else min v (n:Int))=(((if v < 0 then (v+(n:Int)).toNat else min v.toNat n):Nat):Int)
 by_cases hv:v < 0
 · simp only [if_pos hv];omega
 · simp only [if_neg hv];omega
theorem oM (lo hi:Option Int) (n:Nat):Builtin.Slice.sliceAdjust lo hi 1 (n:Int)=(((sIx n 0 lo:Nat):Int),((sIx n n hi:Nat):Int)):=by
 have h1:¬((1:Int) < 0):=by omega
 unfold Builtin.Slice.sliceAdjust
 simp only [h1,if_false]
 refine Prod.ext ?_ ?_
 · cases lo with
   |none=>rfl
   |some v=>exact pU v n 0
 · cases hi with
   |none=>rfl
   |some v=>exact pU v n n
theorem nX (i j:Nat):Builtin.Slice.slicePlaces (i:Int) (j:Int) 1=j - i:=by
 unfold Builtin.Slice.slicePlaces
 have h1:(1:Int) > 0:=by omega
 simp only [h1,if_true,Int.ediv_one]
 split<;>omega
theorem jb {v:Value} {o:Option Int} {Q:Option Int→Shared→Prop} (p:IsPart v o) (h:Q o s):wpAny (model prog w) A (Builtin.Slice.slicePartIndex v) Q E s:=by
 cases p with
 |none=>exact slicePart_none h
 |int i t=>exact slicePart_int h
theorem sliceApplied_gen {sl:Addr} {vl vu:Value} {lo hi:Option Int} {n:Nat} {Q:Int×Int×Nat→Shared→Prop} (hs:s.heap.IsSliceOf sl vl vu .none) (pl:IsPart vl lo) (pu:IsPart vu hi)
 (h:Q (((sIx n 0 lo:Nat):Int),1,sIx n n hi - sIx n 0 lo) s):wpAny (model prog w) A (Builtin.Slice.sliceApplied (.ref sl) (pure (n:Int))) Q E s:=by
 obtain ⟨os,hos,hcs,hds⟩:=id hs
 unfold Builtin.Slice.sliceApplied Builtin.Slice.sliceFields
 refine wpAny_bind (wpAny_bind (wpAny_field hos hds (x:=vl) rfl (wpAny_bind (wpAny_field hos hds (x:=vu) rfl (wpAny_bind (wpAny_field hos hds (x:= .none) rfl (wpAny_pure ?_)))))))
 refine wpAny_bind (slicePart_none ?_)
 show wpAny _ _ (if ((1:Int)==0)=true then _ else _) _ _ s
 rw [if_neg (by decide)]
 refine wpAny_bind (jb pl (wpAny_bind (jb pu (wpAny_bind (wpAny_pure ?_)))))
 show wpAny _ _ (match Builtin.Slice.sliceAdjust lo hi 1 (n:Int) with|(lo,hi)=>pure (lo,(1:Int),Builtin.Slice.slicePlaces lo hi 1)) _ _ s
 rw [oM lo hi n]
 show wpAny _ _ (pure (((sIx n 0 lo:Nat):Int),(1:Int),Builtin.Slice.slicePlaces ((sIx n 0 lo:Nat):Int) ((sIx n n hi:Nat):Int) 1)) _ _ s
 rw [nX]
 exact wpAny_pure h
theorem sM (xs:Array Value) (i k:Nat):((List.range k).filterMap fun (m:Nat)=>xs[((i:Int)+(m:Int)*1).toNat]?).toArray=((xs.toList.drop i).take k).toArray:=by
 have e:(fun (m:Nat)=>xs[((i:Int)+(m:Int)*1).toNat]?)=fun m=>xs[i+m]?:=by
  funext m
  have:((i:Int)+(m:Int)*1).toNat=i+m:=by omega
  rw [this]
 rw [e]
 have:=pick_run xs i k
 rw [List.filterMap_map] at this
 have e2:((fun x=>xs[x]?) ∘ fun x=>i+x)=fun m=>xs[i+m]?:=rfl
 rw [e2] at this
 rw [this]
theorem getItem_tuple_cut {t sl:Addr} {items:Array Value} {vl vu:Value} {lo hi:Option Int} {Q:Value→Shared→Prop} (ht:IsTup s.heap t items) (hs:s.heap.IsSliceOf sl vl vu .none) (pl:IsPart vl lo) (pu:IsPart vu hi)
 (hw:¬(sIx items.size 0 lo=0∧sIx items.size items.size hi=items.size))
 (h:Q (.ref s.heap.objs.size) {s with heap:=s.heap.push {cls:= .type "tuple",data:= .seq ((items.toList.drop (sIx items.size 0 lo)).take (sIx items.size items.size hi - sIx items.size 0 lo)).toArray}})
 (hsz:items.size≤sizeLine):wpAny (model prog w) A (getItem (.ref t) (.ref sl)) Q E s:=by
 have htake:sizeOk (.seq ((items.toList.drop (sIx items.size 0 lo)).take (sIx items.size items.size hi - sIx items.size 0 lo)).toArray):=by
  show ((items.toList.drop (sIx items.size 0 lo)).take (sIx items.size items.size hi - sIx items.size 0 lo)).toArray.size≤sizeLine
  rw [z5,zm,zI,zk]
  omega
 have hj:sIx items.size items.size hi≤items.size:=xb _ _ (yZ _) hi
 obtain ⟨os,hos,hcs,hds⟩:=id hs
 have hTs:s.TypeIs (.ref sl) "slice":=⟨os,hos,hcs⟩
 unfold getItem
 try with_reducible refine wpAny_holding ?_
 first|refine wpAny_bind (wpAny_pure ?_)|skip
 refine wpAny_bind (wpAny_sequenceKey ht.typeIs (by decide) ?_)
 refine wpAny_bind (wpAny_callSpecial?_slot (name:=Str.ofString "__getitem__") ht.typeIs PyProof.Rows.slot_tuple_getitem
  (wpAny_call_entry PyProof.Rows.slot_tuple_getitem ht.typeIs entry_tuple_getitem ?_ (args_tuple_getitem _ _)))
 show wpAny _ _ (Builtin.Tuple.tupleItemsOf (.ref t) >>=_) _ _ s
 refine wpAny_bind (tupleItemsOf_ ht ?_)
 refine wpAny_bind (wpAny_typeOf hTs ?_)
 rw [if_pos (by decide)]
 refine wpAny_bind (sliceApplied_gen hs pl pu ?_)
 have hno:¬((((sIx items.size 0 lo:Nat):Int)==0&& (1:Int)==1&& (sIx items.size items.size hi - sIx items.size 0 lo)==items.size)=true):=by
  intro q
  rw [zS,zS] at q
  have q1:((sIx items.size 0 lo:Nat):Int)=0:=eq_of_beq q.1.1
  have q2:sIx items.size items.size hi - sIx items.size 0 lo=items.size:=eq_of_beq q.2
  exact hw ⟨by omega,by omega⟩
 show wpAny _ _ (if (((sIx items.size 0 lo:Nat):Int)==0&& (1:Int)==1&& (sIx items.size items.size hi - sIx items.size 0 lo)==items.size)=true then _ else _) _ _ s
 rw [if_neg hno,sM]
 first
  |exact wpAny_bind (m:=Builtin.Tuple.tupleExact _) (wpAny_newObj_type (wpAny_pure ⟨_,rfl,wpAny_pure h⟩) htake)
  |exact wpAny_bind (m:=Builtin.Tuple.tupleExact _) (wpAny_newObj_type (wpAny_bind (wpAny_pure (wpAny_pure ⟨_,rfl,wpAny_pure h⟩))) htake)
  |exact wpAny_bind (wpAny_bind (m:=Builtin.Tuple.tupleExact _) (wpAny_newObj_type (wpAny_pure (wpAny_pure ⟨_,rfl,wpAny_pure h⟩)) htake))
  |exact wpAny_bind (wpAny_bind (m:=Builtin.Tuple.tupleExact _) (wpAny_newObj_type (wpAny_pure ⟨_,rfl,wpAny_pure h⟩) htake))
end
end HT
namespace L2
open PySem PySem.Spec PyProof.Rows
abbrev TO:=St→Hp→(Option Int→Hp→Prop)→Prop
def PO (X:Cx) (e:Option Expr) (t:TO):Prop:=
 ∀(pins:List (Addr×Obj)) (s:Shared) (σ:St) (H:Hp) (Q:Option Int→Hp→Prop),Inv X pins σ H s→t σ H Q→
  wpAny (model X.prog X.w) X.A (evalPart e X.env) (fun u s'=>∃o H',Inv X pins σ H' s'∧IsPart u o∧Q o H') X.xe s
def iT:TO:=fun _ H Q=>Q none H
def oV (t:TE):TO:=fun σ H Q=>t σ H fun x H1=>∃i,x= .int i∧Q (some i) H1
section
variable {X:Cx} {e:Expr} {te:TE} {lo hi:Option Expr} {tl th:TO} {pos p2:Pos}
theorem cg:PO X none iT:=by
 intro pins s σ H Q I h
 rw [evalPart_none]
 exact wpAny_pure ⟨none,H,I, .none,h⟩
theorem cf (h:PE X e te):PO X (some e) (oV te):=by
 intro pins s σ H Q I hw
 rw [evalPart_some]
 refine thn (h pins s σ H _ I hw) fun u s1 ⟨x,H1,I1,r1,q1⟩=> ?_
 obtain ⟨i,rfl,q⟩:=q1
 obtain ⟨t,rfl⟩:=r1
 exact ⟨some i,H1,I1, .int i t,q⟩
def SlR (X:Cx) (r:V→Option Int→Option Int→Hp→VK→Prop):Prop:=
 ∀(pins:List (Addr×Obj)) (s:Shared) (σ:St) (H:Hp) (x:V) (v vl vu:Value) (lo hi:Option Int) (sl:Addr) (Q:VK),Inv X pins σ H s→RelV x v→s.heap.IsSliceOf sl vl vu .none→IsPart vl lo→IsPart vu hi→r x lo hi H Q→
  ∃T id,typeLookup (.type T) "__getitem__"=pure (some (.builtin id))∧s.TypeIs v T∧wpAny (model X.prog X.w) X.A (getItem v (.ref sl)) (EP X pins σ Q) X.xe s
def tSl (r:V→Option Int→Option Int→Hp→VK→Prop) (te:TE) (tl th:TO):TE:=fun σ H Q=>te σ H fun x H1=>tl σ H1 fun l H2=>th σ H2 fun u H3=>r x l u H3 Q
theorem bu {r:V→Option Int→Option Int→Hp→VK→Prop} (hr:SlR X r) (he:PE X e te) (hl:PO X lo tl) (hu:PO X hi th):PE X (.Subscript e (.Slice lo hi none p2) pos) (tSl r te tl th):=by
 intro pins s σ H Q I h
 refine Subscript_ (thn (he pins s σ H _ I h) fun v s1 ⟨x,H1,I1,r1,q1⟩=> ?_)
 refine wpAny_Slice (thn (hl pins s1 σ H1 _ I1 q1) fun vl s2 ⟨l,H2,I2,pl,q2⟩=>thn (hu pins s2 σ H2 _ I2 q2) fun vu s3 ⟨u,H3,I3,pu,q3⟩=> ?_)
 rw [evalPart_none]
 refine wpAny_pure ?_
 have I4:Inv X pins σ H3 {s3 with heap:=s3.heap.push {cls:= .type "slice",data:= .fields #[vl,vu, .none]}}:=I3.kept (t':=s3.toks) fun b ob q=>Heap.get?_push_of_some _ q
 obtain ⟨T,id,hT,ht,hg⟩:=hr pins {s3 with heap:=s3.heap.push {cls:= .type "slice",data:= .fields #[vl,vu, .none]}} σ H3 x v vl vu l u s3.heap.objs.size Q I4 r1 (Heap.IsSliceOf.new ..) pl pu q3
 show wpAny (model X.prog X.w) X.A (subscriptTail e (.Slice lo hi none p2) v (.ref s3.heap.objs.size)) (EP X pins σ Q) X.xe {s3 with heap:=s3.heap.push {cls:= .type "slice",data:= .fields #[vl,vu, .none]}}
 exact tail_any (ops:= [.ref s3.heap.objs.size,v]) ht hT hg (by with_unfolding_all rfl)
noncomputable def cutV (xs:List V) (lo hi:Option Int):List V:=(xs.drop (HT.sIx xs.length 0 lo)).take (HT.sIx xs.length xs.length hi - HT.sIx xs.length 0 lo)
theorem iN (xs:List V) (lo hi:Option Int):(cutV xs lo hi).length≤xs.length:=by
 unfold cutV
 rw [zm,zI]
 omega
def rSlT (K:PySem.W.Frag):V→Option Int→Option Int→Hp→VK→Prop:=fun x lo hi H Q=>∃a xs,x= .ref a∧SqT K H a xs∧
 ¬(HT.sIx xs.length 0 lo=0∧HT.sIx xs.length xs.length hi=xs.length)∧∀p,H p=none→Q (.ref p) (upd H p (.tup (cutV xs lo hi)))
theorem x9:SlR X (rSlT X.K):=by
 intro pins s σ H x v vl vu lo hi sl Q I rx hs pl pu h
 obtain ⟨a,xs,rfl,hx,hw,q⟩:=h
 cases rx
 obtain ⟨its,r,ht,hz⟩:=I.tuple hx
 have hlen:its.toArray.size=xs.length:=by rw [z5];exact r.length.symm
 refine ⟨"tuple",_,PyProof.Rows.slot_tuple_getitem.lookup,ht.typeIs,?_⟩
 refine HT.getItem_tuple_cut ht hs pl pu (by rw [hlen];exact hw) ?_ (by rw [hlen];exact hz)
 rw [hlen]
 refine ⟨.ref s.heap.objs.size,_,I.laid (t':=s.toks) (o:= .tup (cutV xs lo hi)) (fun b ob q=>Heap.get?_push_of_some _ q) (yZ _) ?_,rfl,q _ (I.hok.fresh (yZ _))⟩
 exact ⟨zJ (iN xs lo hi) hz,_,(r.drop (HT.sIx xs.length 0 lo)).take (HT.sIx xs.length xs.length hi - HT.sIx xs.length 0 lo),IsTup.new _ _⟩
def yu (K:PySem.W.Frag):R2:=fun x y H Q=>∃a b xs ys,x= .ref a∧y= .ref b∧SqT K H a xs∧SqT K H b ys∧xs≠ []∧xs.length+ys.length≤sizeLine∧
 (ys= []→Q (.ref a) H)∧(ys≠ []→∀p,H p=none→Q (.ref p) (upd H p (.tup (xs++ys))))
theorem Vals.nil_iff {xs:List V} {us:List Value} (r:Vals xs us):us= []↔xs= []:=by
 cases r with
 |nil=>simp
 |cons _ _=>simp
theorem vj:OpR X (binaryOp .Add) (yu X.K):=by
 intro pins s σ H x y v u Q I rx ry h
 obtain ⟨a,b,xs,ys,rfl,rfl,ha,hb,hx,hz,q1,q2⟩:=h
 cases rx
 cases ry
 obtain ⟨its,r1,p1,_⟩:=I.tuple ha
 obtain ⟨its2,r2,p2,_⟩:=I.tuple hb
 refine HT.cat_tup p1 p2 (fun z=>hx (r1.nil_iff.mp z)) (fun z=>⟨.ref a,H,I,rfl,q1 (r2.nil_iff.mp z)⟩) (fun z=> ?_) (by rw [←r1.length,←r2.length];exact hz)
 refine ⟨.ref s.heap.objs.size,_,I.laid (t':=s.toks) (o:= .tup (xs++ys)) (fun b ob q=>Heap.get?_push_of_some _ q) (yZ _) ?_,rfl,q2 (fun w=>z (r2.nil_iff.mpr w)) _ (I.hok.fresh (yZ _))⟩
 exact ⟨by rw [z9];exact hz,_,r1.append r2,IsTup.new _ _⟩
end
open PySem PySem.Spec PyProof.Rows
noncomputable def ixN (n:Nat) (i:Int):Option Nat:=if 0≤i then (if i < n then some i.toNat else none) else if -(n:Int)≤i then some (i+n).toNat else none
noncomputable def atI {α:Type} (xs:List α) (i:Int):Option α:=(ixN xs.length i).bind fun j=>xs[j]?
theorem pJ {n:Nat} {i:Int} {j:Nat} (h:ixN n i=some j):seqIndex? i n=some j∧j < n∧ -(n:Int)≤i∧i < n:=by
 unfold ixN at h
 by_cases h0:0≤i
 · rw [if_pos h0] at h
   by_cases h1:i < n
   · rw [if_pos h1] at h
     have e:i.toNat=j:=zu h
     exact ⟨by rw [seqIndex_of h0 h1,e],by omega,by omega,h1⟩
   · rw [if_neg h1] at h;cases h
 · rw [if_neg h0] at h
   by_cases h1:-(n:Int)≤i
   · rw [if_pos h1] at h
     have e:(i+n).toNat=j:=zu h
     exact ⟨by rw [seqIndex_neg (by omega) h1,e],by omega,h1,by omega⟩
   · rw [if_neg h1] at h;cases h
theorem lJ {α:Type} {xs:List α} {i:Int} {v:α} (h:atI xs i=some v):∃j,seqIndex? i xs.length=some j∧xs[j]?=some v∧j < xs.length∧ -(xs.length:Int)≤i∧i < xs.length:=by
 unfold atI at h
 cases e:ixN xs.length i with
 |none=>rw [e] at h;cases h
 |some j=>
  rw [e] at h
  obtain ⟨h1,h2,h3,h4⟩:=pJ e
  exact ⟨j,h1,h,h2,h3,h4⟩
theorem fe {α:Type} {xs:List α} {j:Nat} {v:α} (h:xs[j]?=some v):atI xs (j:Int)=some v:=by
 have hj:j < xs.length:=(zd.mp h).1
 have e:ixN xs.length (j:Int)=some j:=by
  unfold ixN
  rw [if_pos (by omega),if_pos (by omega)];simp
 unfold atI;rw [e];exact h
def wg (b:Expr):Prop:=∀o i,subscripted b false o i=operate [o,i] (getItem o i)
def IxR (X:Cx) (r:R2):Prop:=
 ∀(value slice:Expr) (pins:List (Addr×Obj)) (s:Shared) (σ:St) (H:Hp) (x y:V) (v u:Value) (Q:VK),Inv X pins σ H s→RelV x v→RelV y u→r x y H Q→
  subscripted slice false v u=operate [v,u] (getItem v u)→wpAny (model X.prog X.w) X.A (subscriptTail value slice v u) (EP X pins σ Q) X.xe s
def MtR (X:Cx) (id:String) (r:V→List V→Hp→VK→Prop):Prop:=
 ∀(pins:List (Addr×Obj)) (s:Shared) (σ:St) (H:Hp) (x:V) (xs:List V) (v:Value) (us:List Value) (Q:VK),Inv X pins σ H s→RelV x v→Vals xs us→r x xs H Q→
  wpAny (model X.prog X.w) X.A (call (.builtin id) (v::us)) (EP X pins σ Q) X.xe s
section
variable {X:Cx} {a b:Expr} {ta tb:TE} {pos:Pos}
theorem aw {r:R2} (hr:IxR X r) (ha:PE X a ta) (hb:PE X b tb) (hs:wg b):PE X (.Subscript a b pos) (tOp r ta tb):=by
 intro pins s σ H Q I h
 exact Subscript_ (binT ha hb I h fun v u s2 x y H2 I2 rx ry q=>hr a b pins s2 σ H2 x y v u Q I2 rx ry q (hs _ _))
def rIxL (K:PySem.W.Frag):R2:=fun x y H Q=>∃p xs i v,x= .ref p∧y= .int i∧SqL K H p xs∧atI xs i=some v∧Q v H
def rIxT (K:PySem.W.Frag):R2:=fun x y H Q=>∃p xs i v,x= .ref p∧y= .int i∧SqT K H p xs∧atI xs i=some v∧Q v H
def rIxS:R2:=fun x y H Q=>∃z i c,x= .str z∧y= .int i∧z.length≤sizeLine∧atI z.cps.toList i=some c∧Q (.str ⟨#[c]⟩) H
theorem bV:IxR X (rIxL X.K):=by
 intro value slice pins s σ H x y v u Q I rx ry h hs
 obtain ⟨p,xs,i,z,rfl,rfl,hq,he,q⟩:=h
 cases rx
 obtain ⟨t,rfl⟩:=ry
 obtain ⟨its,r,pl,hz⟩:=I.list hq
 obtain ⟨j,h1,h2,h3,h4,h5⟩:=lJ he
 obtain ⟨w,ew,rw'⟩:=r.get h2
 have hl:=r.length
 have hn:=fo
 have fin:EP X pins σ Q w s:=⟨z,H,I,rw',q⟩
 by_cases h0:0≤i
 · have hj:i.toNat=j:=by
    rw [seqIndex_of h0 h5] at h1
    exact zu h1
   exact item_listR pl.isList h0 (by omega) (by rw [hj];simpa using ew) fin hs
 · have hj:(i+(its.toArray.size:Int)).toNat=j:=by
    rw [seqIndex_neg (by omega) h4] at h1
    rw [z5,←hl]
    exact zu h1
   exact subscriptTail_builtinR (x:=w) pl.isList.typeIs slot_list_getitem.lookup
    (wpAny_getItem_list_neg (Q:=fun r s'=>r=w∧EP X pins σ Q r s') pl.isList (by omega) (by rw [z5]<;>omega) (by omega) (by rw [hj];simpa using ew) ⟨rfl,fin⟩) hs
theorem aq:IxR X (rIxT X.K):=by
 intro value slice pins s σ H x y v u Q I rx ry h hs
 obtain ⟨p,xs,i,z,rfl,rfl,hq,he,q⟩:=h
 cases rx
 obtain ⟨t,rfl⟩:=ry
 obtain ⟨its,r,pl,hz⟩:=I.tuple hq
 obtain ⟨j,h1,h2,h3,h4,h5⟩:=lJ he
 obtain ⟨w,ew,rw'⟩:=r.get h2
 have hl:=r.length
 have hn:=fo
 have fin:EP X pins σ Q w s:=⟨z,H,I,rw',q⟩
 exact subscriptTail_builtinR (x:=w) pl.typeIs slot_tuple_getitem.lookup
  (getItem_tuple (j:=j) (Q:=fun r s'=>r=w∧EP X pins σ Q r s') pl (by omega) (by omega) (by rw [z5,←hl];exact h1) (by simpa using ew) ⟨rfl,fin⟩) hs
theorem ly:IxR X rIxS:=by
 intro value slice pins s σ H x y v u Q I rx ry h hs
 obtain ⟨z,i,c,rfl,rfl,hz,he,q⟩:=h
 obtain ⟨t,rfl⟩:=rx
 obtain ⟨t',rfl⟩:=ry
 obtain ⟨j,h1,h2,h3,h4,h5⟩:=lJ he
 have hl:z.cps.toList.length=z.length:=by simp [Str.length]
 rw [hl] at h1 h4 h5
 have hn:=fo
 exact tail_any (typeIs_str s z t) slot_str_getitem.lookup (getItem_str (c:=c) (by
  have e1:decide (i < -(2^63:Int))=false:=decide_eq_false (by omega)
  have e2:decide (i≥2^63)=false:=decide_eq_false (by omega)
  rw [e1,e2,Bool.or_false]) (by rw [h1];simpa using h2) ⟨.str ⟨#[c]⟩,H,I.tok _,⟨_,rfl⟩,q⟩) hs
theorem oi (its:List Value) (n j:Nat) (u:Value):Obj.mapSeq (·.setIfInBounds j u) {cls:= .type "list",data:= .seq its.toArray n} = {cls:= .type "list",data:= .seq (its.set j u).toArray n}:=by
 simp [Obj.mapSeq]
theorem Inv.lst {pins:List (Addr×Obj)} {σ:St} {H:Hp} {s:Shared} {p:Addr} {xs:List V} (I:Inv X pins σ H s) (h:H p=some (.lst xs)):
 ∃(its:List Value) (n:Nat),Vals xs its∧s.heap.get? p=some {cls:= .type "list",data:= .seq its.toArray n}∧xs.length≤sizeLine:=by
 obtain ⟨z,its,n,r,e⟩:=I.hok p _ h
 exact ⟨its,n,r,e,z⟩
theorem Inv.lstUpd {pins:List (Addr×Obj)} {σ:St} {H:Hp} {s:Shared} {p:Addr} {xs ys:List V} {its its':List Value} {n n':Nat} {f:Obj→Obj} (I:Inv X pins σ H s) (h:H p=some (.lst xs))
 (ho:s.heap.get? p=some {cls:= .type "list",data:= .seq its.toArray n}) (hf:f {cls:= .type "list",data:= .seq its.toArray n} = {cls:= .type "list",data:= .seq its'.toArray n'}) (r:Vals ys its') (hz:ys.length≤sizeLine) (t:Nat):
 Inv X pins σ (upd H p (.lst ys)) {s with heap:=s.heap.update p f,toks:=t}:=by
 have e:(s.heap.update p f).get? p=some {cls:= .type "list",data:= .seq its'.toArray n'}:=by
  rw [Heap.get?_update_self f ho (by rw [hf]<;>rfl),hf]
 refine I.write (x:=p) (e:=p) (by rw [h];trivial) (.inl rfl) (fun b u hb q=>(Heap.get?_update_other _ _ (Ne.symm hb)).trans q) ⟨_,e⟩ ?_
 exact ⟨hz,its',n',r,e⟩
def yp:V→V→V→Hp→(Hp→Prop)→Prop:=fun o i v H Q=>∃p xs k j,o= .ref p∧i= .int k∧H p=some (.lst xs)∧ixN xs.length k=some j∧Q (upd H p (.lst (xs.set j v)))
theorem jc:PSet X yp:=by
 intro pins s σ H o i v ov iv u Q I ro ri rv h
 obtain ⟨p,xs,k,j,rfl,rfl,hp,hj,q⟩:=h
 cases ro
 obtain ⟨t,rfl⟩:=ri
 obtain ⟨its,n,r,ho,hz⟩:=I.lst hp
 obtain ⟨h1,h2,h3,h4⟩:=pJ hj
 have hl:=r.length
 have hn:=fo
 have I':Inv X pins σ (upd H p (.lst (xs.set j v))) {s with heap:=s.heap.update p (Obj.mapSeq (·.setIfInBounds j u))}:=
  I.lstUpd hp ho (oi its n j u) (r.set rv j) (by rw [List.length_set];exact hz) s.toks
 by_cases h0:0≤k
 · have hk:k.toNat=j:=by
    rw [seqIndex_of h0 h4] at h1
    exact zu h1
   exact PySem.W.ki_setAt ho h0 (by omega) (by rw [z5,←hl];exact h4) (by rw [hk];exact ⟨_,I',q⟩)
 · have hk:(k+(its.toArray.size:Int)).toNat=j:=by
    rw [seqIndex_neg (by omega) h3] at h1
    rw [z5,←hl]
    exact zu h1
   exact PySem.W.ki_setBack ho (by omega) (by rw [z5,←hl];exact h3) (by omega) (by rw [hk];exact ⟨_,I',q⟩)
theorem kK (lo hi:Option Int) (n:Nat):(sliceBounds lo hi none n).1=((HT.sIx n 0 lo:Nat):Int)∧(sliceBounds lo hi none n).2.1=((HT.sIx n n hi:Nat):Int)∧(sliceBounds lo hi none n).2.2=1:=by
 refine ⟨?_,?_,rfl⟩
 · cases lo with
   |none=>simp [sliceBounds,HT.sIx]
   |some i=>
    simp only [sliceBounds,HT.sIx,Option.getD_none,show (1:Int) > 0 by decide,if_true]
    by_cases h:i < 0
    · simp only [h,if_true]<;>omega
    · simp only [h,if_false]<;>omega
 · cases hi with
   |none=>simp [sliceBounds,HT.sIx]
   |some i=>
    simp only [sliceBounds,HT.sIx,Option.getD_none,show (1:Int) > 0 by decide,if_true]
    by_cases h:i < 0
    · simp only [h,if_true]<;>omega
    · simp only [h,if_false]<;>omega
theorem jD (its:List Value) (lo hi:Option Int):slicePick its.toArray lo hi none=((its.drop (HT.sIx its.length 0 lo)).take (HT.sIx its.length its.length hi - HT.sIx its.length 0 lo)).toArray:=by
 obtain ⟨h1,h2,h3⟩:=kK lo hi its.toArray.size
 unfold slicePick
 rw [h1,h2,h3]
 simp only [sliceRange_one,pick_run,z5]<;>rfl
def rSlL (K:PySem.W.Frag):V→Option Int→Option Int→Hp→VK→Prop:=fun x lo hi H Q=>∃a xs,x= .ref a∧SqL K H a xs∧∀p,H p=none→Q (.ref p) (upd H p (.lst (cutV xs lo hi)))
theorem oY:SlR X (rSlL X.K):=by
 intro pins s σ H x v vl vu lo hi sl Q I rx hs pl pu h
 obtain ⟨a,xs,rfl,hx,q⟩:=h
 cases rx
 obtain ⟨its,r,ht,hz⟩:=I.list hx
 have hlen:=r.length
 refine ⟨"list",_,slot_list_getitem.lookup,ht.isList.typeIs,?_⟩
 refine wpAny_getItem_list_slice ht.isList hs pl pu .none (by simp) ?_ (by rw [z5]<;>omega)
 rw [jD,←hlen]
 refine ⟨.ref s.heap.objs.size,_,I.laid (t':=s.toks) (o:= .lst (cutV xs lo hi)) (fun b ob q=>Heap.get?_push_of_some _ q) (yZ _) ?_,rfl,q _ (I.hok.fresh (yZ _))⟩
 exact ⟨zJ (iN xs lo hi) hz,_,0,(r.drop (HT.sIx xs.length 0 lo)).take (HT.sIx xs.length xs.length hi - HT.sIx xs.length 0 lo),Heap.get?_push_size _ rfl⟩
theorem bp:dJ X (.builtin "len") (fun xs H Q=>∃p ys,xs= [.ref p]∧(SqL X.K H p ys∨SqT X.K H p ys)∧Q (.int ys.length) H):=by
 intro pins s σ H xs us Q I r h
 obtain ⟨p,ys,rfl,hq,q⟩:=h
 obtain ⟨u,rfl,rx⟩:=eJ r
 cases rx
 have hn:=fo
 rcases hq with hq|hq
 · obtain ⟨its,r',pl,hz⟩:=I.list hq
   have hlen:=r'.length
   exact Calls.call_len_list pl.isList (by simp only [z5]<;>omega) ⟨.int ys.length,H,I.tok _,⟨s.toks+1,by rw [z5,hlen]⟩,q⟩
 · obtain ⟨its,r',pl,hz⟩:=I.tuple hq
   have hlen:=r'.length
   exact len_tuple pl (by simp only [z5]<;>omega) ⟨.int ys.length,H,I.tok _,⟨s.toks+1,by rw [z5,hlen]⟩,q⟩
theorem lF:dJ X (.builtin "len") (fun xs H Q=>∃z,xs= [.str z]∧z.length≤sizeLine∧Q (.int z.length) H):=by
 intro pins s σ H xs us Q I r h
 obtain ⟨z,rfl,hz,q⟩:=h
 obtain ⟨u,rfl,t,rfl⟩:=eJ r
 have hn:=fo
 exact len_str (by omega) ⟨.int z.length,H,I.tok _,⟨_,rfl⟩,q⟩
theorem ii:dJ X (.type "list") (fun xs H Q=>∃p ys,xs= [.ref p]∧(SqL X.K H p ys∨SqT X.K H p ys)∧∀l,H l=none→Q (.ref l) (upd H l (.lst ys))):=by
 intro pins s σ H xs us Q I r h
 obtain ⟨p,ys,rfl,hq,q⟩:=h
 obtain ⟨u,rfl,rx⟩:=eJ r
 cases rx
 have fin:∀(its:List Value),Vals ys its→ys.length≤sizeLine→∀(h':Heap) (c':Nat),(∀b o',s.heap.get? b=some o'→h'.get? b=some o')→
  h'.get? s.heap.objs.size=some {cls:= .type "list",dict:=none,data:= .seq its.toArray c',slots:= #[]}→EP X pins σ Q (.ref s.heap.objs.size) {s with heap:=h'}:=fun its r' hz h' c' kp e=>
  ⟨.ref s.heap.objs.size,_,I.laid (t':=s.toks) kp (yZ _) (show ObjOk X.prog X.w _ h' _ (.lst ys) from ⟨hz,its,c',r',e⟩),rfl,q _ (I.hok.fresh (yZ _))⟩
 rcases hq with hq|hq
 · obtain ⟨its,r',pl,hz⟩:=I.list hq
   have hlen:=r'.length
   obtain ⟨o,ho,hc,n,hd⟩:=pl.isList
   exact call_list_seq p (.inl rfl) ho hc hd (fun h' c' kp e=>fin its r' hz h' c' kp e) (by simp only [z5]<;>omega)
 · obtain ⟨its,r',pl,hz⟩:=I.tuple hq
   have hlen:=r'.length
   obtain ⟨o,ho,hc,n,hd⟩:=pl
   exact call_list_seq p (.inr rfl) ho hc hd (fun h' c' kp e=>fin its r' hz h' c' kp e) (by simp only [z5]<;>omega)
theorem cp:dJ X (.type "tuple") (fun xs H Q=>∃p ys,xs= [.ref p]∧((SqL X.K H p ys∧∀l,H l=none→Q (.ref l) (upd H l (.tup ys)))∨(SqT X.K H p ys∧Q (.ref p) H))):=by
 intro pins s σ H xs us Q I r h
 obtain ⟨p,ys,rfl,h⟩:=h
 obtain ⟨u,rfl,rx⟩:=eJ r
 cases rx
 rcases h with ⟨hq,q⟩|⟨hq,q⟩
 · obtain ⟨its,r',pl,hz⟩:=I.list hq
   have hlen:=r'.length
   refine call_tuple_list pl.isList (fun h' kp=> ?_) (by simp only [z5]<;>omega)
   have I1:Inv X pins σ H {s with heap:=h'}:=I.kept (t':=s.toks) kp
   have I2:Inv X pins σ (upd H h'.objs.size (.tup ys)) {s with heap:=h'.push {cls:= .type "tuple",data:= .seq its.toArray}}:=
    I1.laid (t':=s.toks) (fun b o e=>Heap.get?_push_of_some _ e) (yZ _) (show ObjOk X.prog X.w _ _ _ (.tup ys) from ⟨hz,its,r',IsTup.new _ _⟩)
   exact ⟨.ref h'.objs.size,_,I2,rfl,q _ (I1.hok.fresh (yZ _))⟩
 · obtain ⟨its,r',pl,hz⟩:=I.tuple hq
   exact call_tuple_same pl ⟨.ref p,H,I,rfl,q⟩
def tyV (K:PySem.W.Frag) (T:String) (x:V) (H:Hp):Prop:=match x with
 | .str _=>T= "str"
 | .int _=>T= "int"
 | .ref p=>(T= "list"∧∃xs,SqL K H p xs)∨(T= "tuple"∧∃o,K.lookup p=some o∧o.cls= .type "tuple"∧o.dict=none)∨
  (T= "dict"∧((∃kvs,H p=some (.dK kvs))∨∃kvs,H p=some (.dT kvs)))∨(T= "set"∧∃S n,H p=some (.set S n))
 |_=>False
theorem rh {pins:List (Addr×Obj)} {σ:St} {H:Hp} {s:Shared} {T:String} {x:V} {v:Value} (I:Inv X pins σ H s) (r:RelV x v) (ty:tyV X.K T x H):
 s.TypeIs v T∧∀a,v= .ref a→∃ob,s.heap.get? a=some ob∧ob.dict=none:=by
 cases x with
 |str z=>
  obtain ⟨t,rfl⟩:=r
  cases (show T= "str" from ty)
  exact ⟨typeIs_str s z t,fun _ e=>nomatch e⟩
 |int i=>
  obtain ⟨t,rfl⟩:=r
  cases (show T= "int" from ty)
  exact ⟨typeIs_int s i t,fun _ e=>nomatch e⟩
 |ref p=>
  cases r
  rcases ty with ⟨rfl,xs,hq⟩|⟨rfl,o,hk,hc,hd⟩|⟨rfl,hk⟩|⟨rfl,S,n,hk⟩
  · obtain ⟨its,_,pl,_⟩:=I.list hq
    refine ⟨pl.isList.typeIs,fun a e=> ?_⟩
    cases e
    obtain ⟨o,n,e,c,hd,_⟩:=pl
    exact ⟨o,e,hd⟩
  · refine ⟨⟨o,I.kIn p o hk,hc⟩,fun a e=> ?_⟩
    cases e
    exact ⟨o,I.kIn _ o hk,hd⟩
  · have z:∃o,s.heap.get? p=some o∧o.ExactDict:=by
     rcases hk with ⟨kvs,hk⟩|⟨kvs,hk⟩
     · obtain ⟨_,_,_,_,o,_,_,e,ex,_⟩:=I.hok p _ hk
       exact ⟨o,e,ex⟩
     · obtain ⟨_,_,_,_,o,_,_,e,ex,_⟩:=I.hok p _ hk
       exact ⟨o,e,ex⟩
    obtain ⟨o,e,ex⟩:=z
    refine ⟨⟨o,e,ex.1⟩,fun a e2=> ?_⟩
    cases e2
    exact ⟨o,e,ex.2.1⟩
  · obtain ⟨o,_,_,_,e,ex,_⟩:=I.hok p _ hk
    refine ⟨⟨o,e,ex.1⟩,fun a e2=> ?_⟩
    cases e2
    exact ⟨o,e,ex.2.1⟩
 |_=>exact False.elim ty
def tBM0 (K:PySem.W.Frag) (T:String) (r:V→List V→Hp→VK→Prop) (to:TE):TE:=fun σ H Q=>to σ H fun x H1=>tyV K T x H1∧r x [] H1 Q
def tBM (K:PySem.W.Frag) (T:String) (r:V→List V→Hp→VK→Prop) (to:TE) (t:TA):TE:=fun σ H Q=>to σ H fun x H1=>tyV K T x H1∧t σ H1 fun xs H2=>r x xs H2 Q
variable {o e:Expr} {es:List Expr} {to:TE} {t:TA} {name:Str} {apos cpos:Pos} {T id:String} {r:V→List V→Hp→VK→Prop}
theorem l9 (pa:PlainAttrs T) (slot:Slot T name id) (hty:typeOf (.builtin id)=pure (.type "method_descriptor")) (hm:MtR X id r) (ho:PE X o to)
 (hbase:attributeBase o name X.env (eval o X.env)=eval o X.env:=by rfl) (hline:(apos.endLine==cpos.line)=true:=by rfl):PE X (.Call (.Attribute o name apos) [] [] cpos) (tBM0 X.K T r to):=by
 intro pins s σ H Q I h
 refine wpAny_Call_method0_late hbase hline (thn (ho pins s σ H _ I h) fun v s1 ⟨x,H1,I1,r1,ty,q1⟩=> ?_)
 obtain ⟨h1,h2⟩:=rh I1 r1 ty
 exact ⟨T,id,pa,slot,hty,h1,h2,Calls.callWith_builtin rfl (PySem.evalArgs_none (hm pins s1 σ H1 x [] v [] Q I1 r1 .nil q1))⟩
theorem je (pa:PlainAttrs T) (slot:Slot T name id) (hty:typeOf (.builtin id)=pure (.type "method_descriptor")) (hm:MtR X id r) (ho:PE X o to) (ha:PA X (e::es) t)
 (hbase:attributeBase o name X.env (eval o X.env)=eval o X.env:=by rfl)
 (hfew:((backTo cpos (starEach (e::es) X.env)).all (fun x=> !x.1)&& (backToKw cpos (keywordEach [] X.env)).all (fun x=>x.1.isSome)
  &&decide ((e::es).length+([]:List Keyword).length+(if ([]:List Keyword).isEmpty then 0 else 1) < 30))=true:=by rfl)
 (hline:(apos.endLine==cpos.line)=true:=by rfl) (hs:starEach (e::es) X.env=(false,eval e X.env)::starEach es X.env:=by rfl) (hplain:(backTo cpos (starEach es X.env)).any (·.1)=false:=by rfl):
 PE X (.Call (.Attribute o name apos) (e::es) [] cpos) (tBM X.K T r to t):=by
 intro pins s σ H Q I h
 refine wpAny_Call_method_late hbase hfew hline rfl (thn (ho pins s σ H _ I h) fun v s1 ⟨x,H1,I1,r1,ty,q1⟩=> ?_)
 obtain ⟨h1,h2⟩:=rh I1 r1 ty
 refine ⟨T,id,pa,slot,hty,h1,h2,?_⟩
 have hA:=ha cpos pins s1 σ H1 _ I1 q1
 rw [hs] at hA ⊢
 refine Calls.callWith_builtin (by show (false ||(backTo cpos (starEach es X.env)).any (·.1))=false;rw [hplain]<;>rfl) (Calls.evalArgs_plain ?_)
 exact thn hA fun us s2 ⟨vs,H2,I2,r2,q2⟩=>hm pins s2 σ H2 x vs v us Q I2 r1 r2 q2
end
open PySem PySem.Spec PyProof.Rows
def MtM (X:Cx) (id:String) (r:V→List V→Hp→VK→Prop):Prop:=
 ∀(pins:List (Addr×Obj)) (s:Shared) (σ:St) (H:Hp) (x:V) (xs:List V) (v:Value) (us:List Value) (Q:VK),Inv X pins σ H s→RelV x v→Vals xs us→r x xs H Q→
  wpAny (model X.prog X.w) X.A (call (.builtin id) (v::us)) (EP X pins σ Q) X.xe s
theorem Vals.one:∀ {x:V} {us:List Value},Vals [x] us→∃u,us= [u]∧RelV x u
 |_,_, .cons r .nil=>⟨_,rfl,r⟩
theorem Vals.two {x y:V} {us:List Value} (h:Vals [x,y] us):∃u v,us= [u,v]∧RelV x u∧RelV y v:=by
 cases h with
 |cons r t=>cases t with
  |cons q t'=>cases t';exact ⟨_,_,rfl,r,q⟩
theorem Vals.zero:∀ {us:List Value},Vals [] us→us= []
 |_, .nil=>rfl
theorem Vals.dropLast {xs:List V} {us:List Value} (h:Vals xs us):Vals xs.dropLast us.dropLast:=by
 induction h with
 |nil=>exact .nil
 |cons r t ih=>
  cases t with
  |nil=>exact .nil
  |cons q t'=>exact .cons r ih
theorem Vals.reverse {xs:List V} {us:List Value} (h:Vals xs us):Vals xs.reverse us.reverse:=by
 induction h with
 |nil=>exact .nil
 |cons r t ih=>rw [List.reverse_cons,List.reverse_cons];exact Vals.append ih (.cons r .nil)
section
variable {X:Cx} {pins:List (Addr×Obj)} {σ:St} {H:Hp} {s:Shared} {l b:Addr} {xs ys zs:List V}
theorem Inv.lset {its its':List Value} {n:Nat} {f:Array Value→Array Value} {t':Nat} (I:Inv X pins σ H s) (hH:H l=some (.lst xs))
 (e:s.heap.get? l=some {cls:= .type "list",data:= .seq its.toArray n}) (hf:f its.toArray=its'.toArray) (hv:Vals ys its') (hz:ys.length≤sizeLine):
 Inv X pins σ (upd H l (.lst ys)) {s with heap:=s.heap.update l (Obj.mapSeq f),toks:=t'}:=by
 have q:=PySem.IsL.update e f
 rw [hf] at q
 refine I.write (x:=l) (e:=l) (by rw [hH];exact trivial) (.inl rfl) (fun b' u hb hu=>(Heap.get?_update_other s.heap (Obj.mapSeq f) (Ne.symm hb)).trans hu) ⟨_,q⟩ ?_
 exact ⟨hz,its',_,hv,q⟩
theorem Inv.lnew {its:List Value} {t':Nat} (I:Inv X pins σ H s) (hv:Vals ys its) (hz:ys.length≤sizeLine):
 Inv X pins σ (upd H s.heap.objs.size (.lst ys)) {s with heap:=s.heap.push {cls:= .type "list",data:= .seq its.toArray},toks:=t'}:=
 I.laid (fun _ _ q=>Heap.get?_push_of_some _ q) (yZ _) ⟨hz,its,0,hv,Heap.get?_push_size _ rfl⟩
theorem Inv.fresh (I:Inv X pins σ H s):H s.heap.objs.size=none:=I.hok.fresh (yZ _)
theorem Inv.lstM (I:Inv X pins σ H s) (hH:H l=some (.lst xs)):xs.length≤sizeLine∧∃(its:List Value) (n:Nat),Vals xs its∧xs.length=its.length∧s.heap.get? l=some {cls:= .type "list",data:= .seq its.toArray n}:=by
 obtain ⟨z,its,n,r,e⟩:=I.hok l _ hH
 exact ⟨z,its,n,r,r.length,e⟩
theorem tI {n:Nat} (h:n≤sizeLine):Builtin.List.listTooLong n=false:=by
 unfold Builtin.List.listTooLong
 exact decide_eq_false (by omega)
end
section
variable {X:Cx}
def va:V→List V→Hp→VK→Prop:=fun x vs H Q=>∃l xs y,x= .ref l∧vs= [y]∧H l=some (.lst xs)∧xs.length < sizeLine∧Q .non (upd H l (.lst (xs++ [y])))
theorem eU:MtM X "list.append" va:=by
 intro pins s σ H x vs v us Q I rx rv h
 obtain ⟨l,xs,y,rfl,rfl,hH,hz,q⟩:=h
 cases rx
 obtain ⟨u,rfl,ru⟩:=rv.one
 obtain ⟨z,its,n,r,hl,e⟩:=I.lstM hH
 refine call_meets F.slot_list_append ⟨_,e,rfl⟩ F.entry_list_append (F.args_list_append_2 _ _) (PySem.list_append l its.toArray n u (by rw [z5];omega)) ⟨e,?_⟩
 refine ⟨.non,_,I.lset (its':=its++ [u]) hH e (by simp) (r.append (.cons ru .nil)) ?_,rfl,q⟩
 rw [z9,zO]
 omega
def uZ:V→List V→Hp→VK→Prop:=fun x vs H Q=>∃l b xs zs,x= .ref l∧vs= [.ref b]∧H l=some (.lst xs)∧H b=some (.lst zs)∧xs.length+zs.length≤sizeLine∧Q .non (upd H l (.lst (xs++zs)))
theorem qB:MtM X "list.extend" uZ:=by
 intro pins s σ H x vs v us Q I rx rv h
 obtain ⟨l,b,xs,zs,rfl,rfl,hH,hB,hz,q⟩:=h
 cases rx
 obtain ⟨u,rfl,ru⟩:=rv.one
 cases ru
 obtain ⟨z,its,n,r,hl,e⟩:=I.lstM hH
 obtain ⟨z2,its2,n2,r2,hl2,e2⟩:=I.lstM hB
 have hsz:its.toArray.size+its2.toArray.size≤sizeLine:=by rw [z5,z5];omega
 have hlong:¬(!its.toArray.isEmpty&&Builtin.List.listTooLong (its.toArray.size+its2.toArray.size))=true:=by
  rw [tI hsz,Bool.and_false]
  exact zj
 refine call_meets F.slot_list_extend ⟨_,e,rfl⟩ F.entry_list_extend (F.args_list_extend_2 _ _)
  (AutoSeq1.list_extend_list_list_0 l its.toArray n b its2.toArray n2 hlong (by rw [z5];omega) (by omega)) ⟨e,e2,?_⟩
 refine ⟨.non,_,I.lset (its':=its++its2) hH e (by simp) (r.append r2) ?_,rfl,q⟩
 rw [z9]
 omega
def sB:V→List V→Hp→VK→Prop:=fun x vs H Q=>∃l xs,x= .ref l∧vs= []∧H l=some (.lst xs)∧Q .non (upd H l (.lst xs.reverse))
theorem o8:MtM X "list.reverse" sB:=by
 intro pins s σ H x vs v us Q I rx rv h
 obtain ⟨l,xs,rfl,rfl,hH,q⟩:=h
 cases rx
 have hus:=rv.zero
 subst hus
 obtain ⟨z,its,n,r,hl,e⟩:=I.lstM hH
 refine call_meets F.slot_list_reverse ⟨_,e,rfl⟩ F.entry_list_reverse (F.args_list_reverse_1 _) (AutoSeq1.list_reverse_list_0 l its.toArray n (by rw [z5];omega)) ⟨e,?_⟩
 refine ⟨.non,_,I.lset (its':=its.reverse) hH e (by simp) r.reverse ?_,rfl,q⟩
 rw [List.length_reverse]
 omega
def rCat:R2:=fun x y H Q=>∃l b xs zs,x= .ref l∧y= .ref b∧H l=some (.lst xs)∧H b=some (.lst zs)∧xs.length+zs.length≤sizeLine∧∀p,H p=none→Q (.ref p) (upd H p (.lst (xs++zs)))
theorem xu:OpR X (binaryOp .Add) rCat:=by
 intro pins s σ H x y v u Q I rx ry h
 obtain ⟨l,b,xs,zs,rfl,rfl,hH,hB,hz,q⟩:=h
 cases rx
 cases ry
 obtain ⟨z,its,n,r,hl,e⟩:=I.lstM hH
 obtain ⟨z2,its2,n2,r2,hl2,e2⟩:=I.lstM hB
 refine PySem.P.add_list e e2 ?_ (by rw [z5,z5];omega)
 have ea:its.toArray++its2.toArray=(its++its2).toArray:=by simp
 rw [ea]
 exact ⟨.ref _,_,I.lnew (t':=s.toks) (r.append r2) (by rw [z9];omega),rfl,q _ I.fresh⟩
end
section
variable {prog:Program} {w:World} {A:Around} {E:Value→Shared→Prop} {s:Shared}
end
section
variable {X:Cx}
end
end L2
namespace Att
open PySem PySem.W PySem.Calls PyProof.Rows
theorem iO {P:Params} {h:Heap}:∀(ns:List Int) (vs:List Value),WellAll P h vs (ns.map WData.int)→IntsAre vs ns:=by
 intro ns
 induction ns with
 |nil=>
  intro vs w
  rw [List.map_nil] at w
  cases w
  exact .nil
 |cons n ns ih=>
  intro vs w
  rw [zo] at w
  cases w with
  |cons a b=>
   cases a
   exact .cons _ _ (ih _ b)
theorem qq {l:OpenLaw} {n:Nat} (hn:l.most=some n) {P:Params} {h:Heap} {args:List WData} {vals:List Value}
 (hpre:l.row.toRowW.claim.pre args=true) (hwl:WellAll P h vals args):
 ∃a vs ns,vals= [Value.ref a]∧args= [WData.list (ns.map WData.int)]∧h.get? a=some {cls:= .type "list",data:= .seq vs.toArray}∧IntsAre vs ns∧ns.length≤n:=by
 have hsh:WShape.hasAll [] args [.list .int]=true:=(pre_splitW hpre).1
 have hc:l.pre.holds [] {args:=args} =true:=(pre_splitW hpre).2
 obtain ⟨d,r,rfl,h1,h2⟩:=hasAllW_cons hsh
 obtain rfl:=hasAllW_nil h2
 obtain ⟨xs,rfl,h3⟩:=hasW_list h1
 obtain ⟨ns,rfl⟩:=items_int h3
 have hlen:ns.length≤n:=by
  unfold OpenLaw.pre at hc
  have h4:(WTm.not (.lt (.lit (.int (n:Int))) (.len (.arg 0)))).holds [] {args:= [.list (ns.map .int)]} =true:=by
   have h4:=(holds_andW hc).1
   rw [hn] at h4
   exact h4
  have h5:=condW_of h4 (w_not (w_lt w_lit (w_len_list (w_arg rfl))))
  rw [yW] at h5
  refine Nat.le_of_not_lt fun q=> ?_
  have q':(n:Int) < ((ns.length:Nat):Int):=by omega
  first
   |(rw [decide_eq_true q'] at h5;exact absurd h5 (by decide))
   |(simp at h5;omega)
 cases hwl with
 |cons w1 w2=>
  cases w2
  cases w1 with
  |list ho hall=>exact ⟨_,_,ns,rfl,rfl,ho,iO ns _ hall,hlen⟩
theorem qr (l:OpenLaw) (args:List WData):l.row.toRowW.claim.post args (.bool true) args=true:=
 postW_of (r:=l.row.toRowW) (X:=(true==true))
  (show WShape.has [] (.bool true) .bool=true by first|rfl|decide|simp [WShape.has,WShape.arms,WShape.armsAll])
  (show (WTm.eq .res (.lit (.bool true))).value [] {args:=args,res:=some (.bool true),after:=args} =some (.bool (true==true)) from w_eq_bool (w_res rfl) w_lit) rfl
theorem attach_call {l:OpenLaw} {n:Nat} {q:Program} {loose:List Str} {XP:(Str→Option Value)→Heap→Prop} {YP:World→Heap→Prop} {d:DefRec}
 (hn:l.most=some n) (hdf:d.params.defaults= [])
 (call:∀(w:World) (s₀ s₁:Shared) (mg mb:Str→Option Value) (fa:Addr) (o:Obj) (pm cd doc:Value) (a:Addr) (vs:List Value) (ns:List Int),
  Ground q loose [] XP w s₀ mg mb s₁.heap→YP w s₁.heap→
  s₁.heap.get? fa=some o→o.data= .func (docDef d.name d.params d.body d.scope pm cd doc)→s₁.heap.CodeRec cd d.name→mg d.name=some (.ref fa)→
  s₁.heap.get? a=some {cls:= .type "list",data:= .seq vs.toArray}→IntsAre vs ns→ns.length≤n→s₁.gens= #[]→
  codeAny (model l.prog w) callerA (.call (.ref fa) ⟨[.ref a],[]⟩) (fun r s'=>r= .ok (.ret (.bool true))∧OldK s₁.heap s'.heap∧s'.os=s₁.os∧AllBare s'.gens) s₁):
 WalkO q loose XP YP l.row.toRowW d [] (fun f vs=>PySem.call f vs):=by
 intro w s₀ s₁ mg mb G Y fa o pm cd doc dV kV ho hd hcd hD hmg hg args vals as hpre hlay hrd hwl hlo
 obtain rfl:dV= .none:=Dflts.none hD hdf
 obtain rfl:kV= .none:=Dflts.noKw hD
 obtain ⟨a,vs,ns,rfl,rfl,hobj,hints,hlen⟩:=qq hn hpre hwl
 refine enter_call (codeAny_mono (call w s₀ s₁ mg mb fa o pm cd doc a vs ns G Y ho (fd_plain hd) hcd hmg hobj hints hlen hg) fun r s' hq=> ?_)
 obtain ⟨rfl,h2,h3,h4⟩:=hq
 exact ⟨.inl ⟨.bool true, .bool true,[],rfl,fun _=>rfl, .bool true,qr l _,fun _=>⟨List.Pairwise.nil,fun _ hm=>(nomatch hm)⟩⟩,h2,h3,h4⟩
section
variable {prog:Program} {w:World} {A:Around} {E:Value→Shared→Prop} {s:Shared} {K:Frag}
end
end Att
namespace L2
open PySem PySem.Spec PyProof.Rows
theorem jF:∀ {vs:List Value} {ns:List Int},IntsAre vs ns→Vals (ns.map V.int) vs
 |_,_, .nil=> .nil
 |_,_, .cons n t h=> .cons ⟨t,rfl⟩ (jF h)
def Only (H:Hp):Prop:=∀b,H b=none∨∃o xs,H b=some (.frz o (.lst xs))
theorem tU {P:Program} {w:World} {K:PySem.W.Frag} {mg mb:Str→Option Value} {CX:CXT} {k:Nat} {fa a:Addr} {fd:FuncData} {x:Str} {sp:Sp} {s₁:Shared} {vs:List Value} {ns:List Int}
 (KX:K.In s₁.heap) (hns:s₁.heap.Ns mainGlobals mg) (hb:s₁.heap.Ns builtinsNs mb) (hbb:∀x:Str,x≠"__name__"→mb x=bootBuiltins x) (hlim:s₁.heap.NoLimit) (hg:s₁.gens= #[])
 (ha:s₁.heap.get? a=some {cls:= .type "list",data:= .seq vs.toArray}) (hi:IntsAre vs ns) (hl:ns.length≤sizeLine) (hr:Room k callerA)
 (F:∀base:Heap,K.In base→base.Ns mainGlobals mg→FnOk P w K mg base CX k fa fd [x] sp) (hbind:∀(s:Shared) (u:Value),BindsTo s fd ⟨[u],[]⟩ [(x,u)])
 (hsp:∀H:Hp,Only H→SqL K H a (ns.map V.int)→sp [.ref a] H (fun v _=>v= .bl true) fun _ _ _=>False)
 (hCX:∀H e s',CX [] H s₁ (fun _ _ _=>False) e s'→False):
 codeAny (model P w) callerA (.call (.ref fa) ⟨[.ref a],[]⟩) (fun r s'=>r= .ok (.ret (.bool true))∧OldK s₁.heap s'.heap∧s'.os=s₁.os∧AllBare s'.gens) s₁:=by
 have rv:=jF hi
 have lenV:=hi.length
 have core:∀H:Hp,Only H→SqL K H a (ns.map V.int)→HOk P w H s₁.heap→(∀b,H b≠none→b=a)→(H a≠none→K.lookup a=none)→
  codeAny (model P w) callerA (.call (.ref fa) ⟨[.ref a],[]⟩) (fun r s'=>r= .ok (.ret (.bool true))∧OldK s₁.heap s'.heap∧s'.os=s₁.os∧AllBare s'.gens) s₁:=by
  intro H hO hS hok hA hK
  have base_of:∀ {b:Addr} {o:Obj},s₁.heap.get? b=some o→H b=none→(hidT s₁.heap H).get? b=some o:=fun e n=>ub e n
  have noA:∀ {b:Addr} {o:Obj} {es:Array DictEntry} {ep:Nat},s₁.heap.get? b=some o→o.data= .dict es ep→H b=none:=fun {b o es ep} e d=>by
   cases q:H b with
   |none=>rfl
   |some u=>
    have e':b=a:=hA b (by rw [q];simp)
    subst e'
    rw [ha] at e;cases e
    have d':Data.seq vs.toArray _=Data.dict es ep:=d
    cases d'
  have nsK:∀ {b:Addr} {m:Str→Option Value},s₁.heap.Ns b m→(hidT s₁.heap H).Ns b m:=fun {b m} ⟨o,es,ep,e,d,r⟩=>⟨o,es,ep,base_of e (noA e d),d,r⟩
  have hKb:K.In (hidT s₁.heap H):=fun b o e=>base_of (KX b o e) (by
   cases q:H b with
   |none=>rfl
   |some u=>
    have e':b=a:=hA b (by rw [q];simp)
    subst e'
    rw [hK (by rw [q];simp)] at e;cases e)
  have hM:Mod K mg (hidT s₁.heap H):=⟨hKb,nsK hns,⟨mb,nsK hb,hbb⟩,let ⟨mc,h1,h2⟩:=hlim;⟨mc,nsK h1,h2⟩⟩
  have e0:Env0 P w K mg (hidT s₁.heap H) callerA [] s₁ H:=⟨rfl,hM,fun b o e=>⟨(pB e).1, .inl (pB e).2⟩,Nat.le_of_eq (qM _ _),trivial,fun b hb=>absurd (show b∈([]:List Addr) from hb) (by simp),hok, .of_eq hg⟩
  refine codeAny_mono ((F _ hKb (nsK hns)).run callerA [] s₁ H ⟨[.ref a],[]⟩ [.ref a] [.ref a] _ _ hr e0 (hbind s₁ (.ref a)) (.cons rfl .nil) (hsp H hO hS)) fun r s' h=> ?_
  cases r with
  |error e=>exact (hCX H e s' h).elim
  |ok fl=>
   cases fl with
   |next=>exact False.elim h
   |brk=>exact False.elim h
   |cont=>exact False.elim h
   |ret u=>
    obtain ⟨v,H',os,bare,un,hok',r',q⟩:=h
    have q':v= .bl true:=q
    subst q'
    obtain rfl:u=Value.bool true:=r'
    refine ⟨rfl,OldK.of_keep fun b o e=> ?_,os,bare⟩
    cases q:H b with
    |none=>exact un.keep b o e (.inl q) (by intro z;exact absurd (show b∈([]:List Addr) from z) (by simp)) (by simp)
    |some u=>
     rcases hO b with z|⟨ob,xs,z⟩
     · rw [q] at z;cases z
     · have z2:=un.frzs b ob _ z
       obtain ⟨e1,_⟩:=hok b _ z
       obtain ⟨e2,_⟩:=hok' b _ z2
       rw [e] at e1;cases e1
       exact e2
 cases hk:K.lookup a with
 |some o=>
  have e:=KX a o hk
  rw [ha] at e
  cases e
  refine core (fun _=>none) (fun _=> .inl rfl) (.inr ⟨_,vs.toArray,_,hk,rfl,rfl,rfl,by rw [z5,lenV];exact hl,by simpa using rv⟩) (fun b u z=>by have z':(none:Option HO)=some u:=z;cases z') (fun b z=>absurd rfl z) fun z=>absurd rfl z
 |none=>
  refine core (fun b=>if b=a then some (.frz {cls:= .type "list",data:= .seq vs.toArray} (.lst (ns.map V.int))) else none) (fun b=> ?_) (.inl (.inr ⟨{cls:= .type "list",data:= .seq vs.toArray},if_pos rfl⟩)) (fun b u z=> ?_) (fun b z=> ?_) fun _=>hk
  · by_cases hb:b=a
    · exact .inr ⟨_,_,if_pos hb⟩
    · exact .inl (if_neg hb)
  · by_cases hb:b=a
    · have z':=(if_pos hb).symm.trans z
      cases z'
      subst hb
      exact ⟨ha,by rw [yW];exact hl,vs,_,rv,ha⟩
    · have z':=(if_neg hb).symm.trans z
      cases z'
  · by_cases hb:b=a
    · exact hb
    · exact absurd (if_neg hb) z
open PySem PySem.Spec PyProof.Rows
theorem walk_of {l:PySem.W.OpenLaw} {n k:Nat} {q:Program} {loose:List Str} {XP:(Str→Option Value)→Heap→Prop} {YP:World→Heap→Prop} {d:DefRec} {K:Params→PySem.W.Frag} {CX:World→CXT} {sp:World→Sp} {x:Str}
 (hn:l.most=some n) (hn2:n≤sizeLine) (hdf:d.params.defaults= []) (hr:Room k callerA)
 (hY:∀(w:World) (h:Heap),YP w h→(K w.params).In h)
 (F:∀(w:World) (mg:Str→Option Value) (fa:Addr) (h:Heap),(K w.params).In h→h.Ns mainGlobals mg→mg d.name=some (.ref fa)→
  ∃fd:FuncData,(∀(s:Shared) (u:Value),BindsTo s fd ⟨[u],[]⟩ [(x,u)])∧
   ∀base:Heap,(K w.params).In base→base.Ns mainGlobals mg→FnOk l.prog w (K w.params) mg base (CX w) k fa fd [x] (sp w))
 (hsp:∀(w:World) (H:Hp) (a:Addr) (ns:List Int),ns.length≤n→Only H→SqL (K w.params) H a (ns.map V.int)→sp w [.ref a] H (fun v _=>v= .bl true) fun _ _ _=>False)
 (hCX:∀(w:World) (H:Hp) (s:Shared) (e:Value) (s':Shared),CX w [] H s (fun _ _ _=>False) e s'→False):
 PySem.W.WalkO q loose XP YP l.row.toRowW d [] (fun f vs=>PySem.call f vs):=by
 refine Att.attach_call hn hdf fun w s₀ s₁ mg mb fa o pm cd doc a vs ns G Y ho hd hcd hmg hobj hints hlen hg=> ?_
 have KX:=hY w _ Y
 obtain ⟨fd,hb,hF⟩:=F w mg fa _ KX G.T.g hmg
 exact tU KX G.T.g G.T.b G.T.builtins G.T.nolimit hg hobj hints (zJ hlen hn2) hr hF hb (fun H hO hS=>hsp w H a ns hlen hO hS) fun H e s'=>hCX w H s₁ e s'
open PySem PySem.Spec PyProof.Rows
noncomputable def vM (s:Stmt) (j:Nat):Stmt:=match s with
 | .ClassDef _ _ _ body _ _ _ _ _ _ _=>body.getD j (.Pass ⟨0,0,0,0⟩)
 |_=> .Pass ⟨0,0,0,0⟩
noncomputable def aF (s:Stmt):Arguments:=match s with
 | .FunctionDef _ a _ _ _ _ _ _ _ _=>a
 |_=> {posonlyargs:= [],args:= [],vararg:=none,kwonlyargs:= [],kw_defaults:= [],kwarg:=none,defaults:= []}
noncomputable def ay (s:Stmt):List Stmt:=match s with
 | .FunctionDef _ _ b _ _ _ _ _ _ _=>b
 |_=> []
noncomputable def ah (s:Stmt):Scope:=match s with
 | .FunctionDef _ _ _ _ _ _ sc _ _ _=>sc
 |_=> {kind:= .function,names:= [],isGenerator:=false,isCoroutine:=false}
abbrev CX0:CXT:=fun _ _ _ _ _ _=>False
abbrev E0:XK:=fun _ _ _=>False
theorem ak {X:Cx}:iJ CX0 X E0:=fun _ _ _ _ _ _ _ h=>h.elim
structure Fun (K:PySem.W.Frag) (x qual:Str) (st:Stmt) (f:Addr) (fd:FuncData):Prop where
 ex:∃(oc:Value) (od:Option Addr) (kV doc pm:Value) (an:Option Addr) (cdv ct:Value) (osl:Array (Option Value)),
  fd=PySem.W.fnOf x qual (aF st) (ay st) (ah st) .none kV doc pm an cdv ct∧K.lookup f=some ⟨oc,od, .func fd,osl⟩∧PySem.W.codeIn K cdv qual=true
 kp:PySem.W.keepIn K (.ref f)=true
section
variable {P:Program} {w:World} {K:PySem.W.Frag} {mg:Str→Option Value} {base:Heap}
theorem Fun.ok {x qual:Str} {st:Stmt} {f:Addr} {fd:FuncData} {N ps:List Str} {k:Nat} {sp:Sp} (F:Fun K x qual st f fd) (S:aD N ps (ah st)) (len:∀vs H Q E,sp vs H Q E→vs.length=ps.length)
 (hbody:∀(cdv:Value) (A:Around) (outer:List Env) (s:Shared) (H:Hp) (vs:List V) (Q:VK) (E:XK),Room k (A.deeper (envOfC qual (ah st) s.heap.objs.size f cdv))→sp vs H Q E→
  ∃t,PSs (cxOf CX0 P w K mg base N qual (ah st) f cdv A outer s H E).nox (ay st) t∧t {nx:=fun _ H'=>Q .non H',rt:=Q} (eQ N vs) H):FnOk P w K mg base CX0 (k+1) f fd ps sp:=by
 obtain ⟨oc,od,kV,doc,pm,an,cdv,ct,osl,rfl,lk,hcd⟩:=F.ex
 refine wH lk hcd S len fun A outer s H vs Q E hr hsp=> ?_
 obtain ⟨t,h,q⟩:=hbody cdv A outer s H vs Q E hr hsp
 exact ⟨t,h.nox,q⟩
theorem Fun.binds {x qual:Str} {st:Stmt} {f:Addr} {fd:FuncData} {ps:List Str} (F:Fun K x qual st f fd)
 (h:∀(kV doc pm:Value) (an:Option Addr) (cdv ct:Value) (us:List Value),us.length=ps.length→bindArgs (PySem.W.fnOf x qual (aF st) (ay st) (ah st) .none kV doc pm an cdv ct) ⟨us,[]⟩=pure (ps.zip us)):Binds K fd ps []:=by
 obtain ⟨oc,od,kV,doc,pm,an,cdv,ct,osl,rfl,lk,hcd⟩:=F.ex
 exact .all (h kV doc pm an cdv ct)
theorem aM {x qual:Str} {st:Stmt} {f:Addr} {oc:Value} {od an:Option Addr} {osl:Array (Option Value)} {kV doc pm cdv ct:Value} (l:K.lookup f=some ⟨oc,od, .func (PySem.W.fnOf x qual (aF st) (ay st) (ah st) .none kV doc pm an cdv ct),osl⟩)
 (c:PySem.W.codeIn K cdv qual=true) (k:PySem.W.keepIn K (.ref f)=true):Fun K x qual st f (PySem.W.fnOf x qual (aF st) (ay st) (ah st) .none kV doc pm an cdv ct):=⟨⟨oc,od,kV,doc,pm,an,cdv,ct,osl,rfl,l,c⟩,k⟩
end
theorem ua {A:Around} {k:Nat} (hr:Room k A):A.units+1 < cLine:=zq (zM (by decide:1≤64) _) hr.units
theorem jJ {n:Nat} (h:n≤1000):n < sizeLine:=zq h (by decide)
section
variable {X:Cx}
theorem pv (i:Nat) {x:Str} {pos:Pos} (hN:X.N[i]?=some x:=by rfl) (hv:Vis X.env.scope x:=by first|exact Or.inl rfl|exact Or.inr (Or.inl rfl)|exact Or.inr (Or.inr rfl)) (hd:(x==("__debug__":Str))=false:=by decide)
 (hcd:(x==("__classdict__":Str))=false:=by decide):PE X (.Name x pos) (tVar i):=xo hN hv hd hcd
end
theorem iteF {A B:Prop} (h:B):if false=true then A else B:=by
 rw [if_neg zj]
 exact h
theorem iteT {A B:Prop} (h:A):if true=true then A else B:=by
 rw [if_pos rfl]
 exact h
theorem ite2 {c A B:Prop} [Decidable c] (h1:c→A) (h2:¬c→B):if c then A else B:=by
 by_cases h:c
 · rw [if_pos h]
   exact h1 h
 · rw [if_neg h]
   exact h2 h
def Same (H H':Hp):Prop:=∀b o,H b=some o→H' b=some o
theorem Same.refl (H:Hp):Same H H:=fun _ _ h=>h
theorem Same.trans {H H1 H2:Hp} (a:Same H H1) (b:Same H1 H2):Same H H2:=fun c o h=>b c o (a c o h)
theorem Same.free {H H':Hp} (e:Same H H') {l:Addr} (h:H' l=Option.none):H l=Option.none:=by
 cases q:H l with
 |none=>rfl
 |some o=>
  rw [e l o q] at h
  cases h
theorem Same.seq {K:PySem.W.Frag} {H H':Hp} {a:Addr} {xs:List V} (e:Same H H') (h:SqL K H a xs):SqL K H' a xs:=by
 rcases h with (h|⟨o,h⟩)|h
 · exact .inl (.inl (e _ _ h))
 · exact .inl (.inr ⟨o,e _ _ h⟩)
 · exact .inr h
end L2
namespace L2
theorem hide {p:Prop} (h:∀q:Prop,q=p→q):p:=h p rfl
end L2
namespace Srt
open PySem PySem.W PyProof.Rows
structure Ord (lt:Nat→Nat→Bool):Prop where
 asym:∀a b,lt a b=true→lt b a=false
 tr:∀a b c,lt b a=false→lt c b=false→lt c a=false
theorem Ord.refl {lt:Nat→Nat→Bool} (O:Ord lt) (a:Nat):lt a a=false:=by
 cases e:lt a a with
 |false=>rfl
 |true=>exact (O.asym a a e).symm.trans e |>.symm
theorem Ord.up {lt:Nat→Nat→Bool} (O:Ord lt) {a b c:Nat} (h:lt a b=true) (h2:lt c b=false):lt a c=true:=by
 cases e:lt a c with
 |true=>rfl
 |false=>
  have:=O.tr b c a h2 e
  rw [h] at this
  cases this
def Tri {α:Type} (lt:Nat→Nat→Bool) (N:Nat) (Post:α→Prop):KasT α→Prop
 | .ret a=>Post a
 | .ask i j k=>i < N∧j < N∧Tri lt N Post (k (lt i j))
variable {lt:Nat→Nat→Bool} {N:Nat}
theorem eL {α β:Type} {Post:β→Prop} {f:α→KasT β}:∀ {t:KasT α},Tri lt N (fun a=>Tri lt N Post (f a)) t→Tri lt N Post (t.bind f)
 | .ret a,h=>h
 | .ask i j k,h=>⟨h.1,h.2.1,eL h.2.2⟩
theorem cr {α:Type} {P Q:α→Prop} (hPQ:∀a,P a→Q a):∀ {t:KasT α},Tri lt N P t→Tri lt N Q t
 | .ret a,h=>hPQ a h
 | .ask i j k,h=>⟨h.1,h.2.1,cr hPQ h.2.2⟩
theorem rj {α:Type} {cmp:Nat→Nat→(Bool→Shared→Prop)→Shared→Prop} {G:Shared→Prop} {Post:α→Prop} {Q:α→Shared→Prop}
 (hc:∀i j (R:Bool→Shared→Prop) s,i < N→j < N→G s→(∀s',G s'→R (lt i j) s')→cmp i j R s) (hQ:∀a s,Post a→G s→Q a s):∀ {t:KasT α} {s:Shared},Tri lt N Post t→G s→t.kasWp cmp Q s
 | .ret a,s,h,g=>hQ a s h g
 | .ask i j k,s,h,g=>hc i j _ s h.1 h.2.1 g fun s' g'=>rj hc hQ h.2.2 g'
def g (p:Array Nat) (k:Nat):Nat:=p.getD k 0
def Pm (N:Nat) (p:Array Nat):Prop:=p.toList.Perm (List.range N)
theorem Pm.size {p:Array Nat} (h:Pm N p):p.size=N:=by
 have:=h.length_eq
 rw [zk,List.length_range] at this
 exact this
theorem eI {p:Array Nat} (k:Nat):g p k=(p[k]?).getD 0:=by
 unfold g
 rw [zY]
theorem Pm.bd {p:Array Nat} (h:Pm N p) {k:Nat} (hk:k < N):g p k < N:=by
 have hs:=h.size
 have:p[k]?=some (p[k]'(by omega)):=zW _
 rw [eI,this]
 have m:p[k]'(by omega)∈p.toList:=Array.mem_toList_iff.mpr (Array.getElem_mem _)
 exact zN.mp (h.mem_iff.mp m)
theorem Pm.of {p q:Array Nat} (h:Pm N p) (e:q.Perm p):Pm N q:=(Array.perm_iff_toList_perm.mp e).trans h
theorem Pm.rev {p:Array Nat} (h:Pm N p) (i j:Nat):Pm N (kas_rev p i j):=h.of (mirror_perm _ _ _ _)
theorem gm {p:Array Nat} {i j:Nat} (hj:j≤p.size) (k:Nat):g (kas_rev p i j) k=if i≤k∧k < j then g p (i+j - 1 - k) else g p k:=by
 rw [eI]
 unfold kas_rev
 rw [getElem?_mirror_all hj]
 split<;>rw [eI]
theorem yS {p:Array Nat} {src d:Nat} (hs:src < p.size) (hd:d≤src) (k:Nat):g (bubble p src d) k=if k=src - d then g p src else if src - d < k∧k≤src then g p (k - 1) else g p k:=by
 rw [eI,getElem?_bubble hs d hd]
 split
 · rw [eI]
 · split<;>rw [eI]
def Up (lt:Nat→Nat→Bool) (p:Array Nat) (n:Nat):Prop:=∀i j,i≤j→j < n→lt (g p j) (g p i)=false
def Dn (lt:Nat→Nat→Bool) (p:Array Nat) (n:Nat):Prop:=∀i j,i≤j→j < n→lt (g p i) (g p j)=false
theorem uP (O:Ord lt) {p:Array Nat} {n:Nat} (h0:1≤n) (h:Up lt p n) (e:lt (g p n) (g p (n - 1))=false):Up lt p (n+1):=by
 intro i j hij hj
 by_cases q:j < n
 · exact h i j hij q
 · have ej:j=n:=by omega
   subst ej
   by_cases qi:i=j
   · subst qi
     exact O.refl _
   · exact O.tr _ _ _ (h i (j - 1) (by omega) (by omega)) e
theorem i8 (O:Ord lt) {p:Array Nat} {n:Nat} (h0:1≤n) (h:Dn lt p n) (e:lt (g p (n - 1)) (g p n)=false):Dn lt p (n+1):=by
 intro i j hij hj
 by_cases q:j < n
 · exact h i j hij q
 · have ej:j=n:=by omega
   subst ej
   by_cases qi:i=j
   · subst qi
     exact O.refl _
   · exact O.tr _ _ _ e (h i (j - 1) (by omega) (by omega))
theorem wS {p:Array Nat} {n:Nat} (hn:n≤p.size) (h:Dn lt p n):Up lt (kas_rev p 0 n) n:=by
 intro i j hij hj
 rw [gm hn,gm hn,if_pos ⟨zG _,hj⟩,if_pos ⟨zG _,by omega⟩]
 exact h _ _ (by omega) (by omega)
theorem rF (O:Ord lt) {p:Array Nat} (hp:Pm N p):∀(f n:Nat),1≤n→n+f≤N→Up lt p n→Tri lt N (fun m=>n≤m∧m≤n+f∧Up lt p m∧(m < n+f→lt (g p m) (g p (m - 1))=true)) (kas_asc p f n)
 |0,n,h1,h2,h=>⟨yZ _,yZ _,h,fun q=>absurd q (by omega)⟩
 |f+1,n,h1,h2,h=>by
  refine ⟨Pm.bd hp (by omega),Pm.bd hp (by omega),?_⟩
  show Tri lt N _ (if lt (g p n) (g p (n - 1))=true then .ret n else kas_asc p f (n+1))
  by_cases e:lt (g p n) (g p (n - 1))=true
  · rw [if_pos e]
    exact ⟨yZ _,by omega,h,fun _=>e⟩
  · rw [if_neg e]
    refine cr (fun m hm=> ?_) (rF O hp f (n+1) (by omega) (by omega) (uP O h1 h (by simpa using e)))
    exact ⟨by omega,by omega,hm.2.2.1,fun q=>hm.2.2.2 (by omega)⟩
def Eqv (lt:Nat→Nat→Bool) (p:Array Nat) (n q:Nat):Prop:=∀k,n - 1 - q≤k→k < n→lt (g p k) (g p (n - 1))=false∧lt (g p (n - 1)) (g p k)=false
theorem nj (O:Ord lt) {p:Array Nat} {n q:Nat} (hn:n≤p.size) (hq:q+1≤n) (h:Dn lt p n) (he:Eqv lt p n q):Dn lt (kas_rev p (n - (q+1)) n) n:=by
 intro i j hij hj
 rw [gm hn,gm hn]
 by_cases bi:n - (q+1)≤i
 · rw [if_pos ⟨bi,by omega⟩,if_pos ⟨by omega,hj⟩]
   obtain ⟨a1,a2⟩:=he (n - (q+1)+n - 1 - i) (by omega) (by omega)
   obtain ⟨b1,b2⟩:=he (n - (q+1)+n - 1 - j) (by omega) (by omega)
   exact O.tr _ _ _ b2 a1
 · rw [if_neg (by omega)]
   by_cases bj:n - (q+1)≤j
   · rw [if_pos ⟨bj,hj⟩]
     exact h _ _ (by omega) (by omega)
   · rw [if_neg (by omega)]
     exact h _ _ hij hj
theorem kr (O:Ord lt):∀(f:Nat) (p:Array Nat) (n q:Nat),Pm N p→1≤n→n+f≤N→q+1≤n→Dn lt p n→Eqv lt p n q→
 Tri lt N (fun r=>Pm N r.1∧n≤r.2.1∧r.2.1≤n+f∧r.2.2+1≤r.2.1∧Dn lt r.1 r.2.1∧Eqv lt r.1 r.2.1 r.2.2) (kas_desc f p n q)
 |0,p,n,q,hp,h1,h2,hq,h,he=>⟨hp,yZ _,yZ _,hq,h,he⟩
 |f+1,p,n,q,hp,h1,h2,hq,h,he=>by
  have hs:=hp.size
  refine ⟨Pm.bd hp (by omega),Pm.bd hp (by omega),?_⟩
  show Tri lt N _ (if lt (g p n) (g p (n - 1))=true then (if q > 0 then kas_desc f (kas_rev p (n - (q+1)) n) (n+1) 0 else kas_desc f p (n+1) 0) else .ask (g p (n - 1)) (g p n) fun d=>if d=true then .ret (p,n,q) else kas_desc f p (n+1) (q+1))
  have one:∀p':Array Nat,Eqv lt p' (n+1) 0:=fun p' k k1 k2=>by
   have:k=n:=by omega
   subst this
   exact ⟨O.refl _,O.refl _⟩
  by_cases e:lt (g p n) (g p (n - 1))=true
  · rw [if_pos e]
    have e':=O.asym _ _ e
    by_cases q0:q > 0
    · rw [if_pos q0]
      have d1:=nj O (by omega) hq h he
      have d2:Dn lt (kas_rev p (n - (q+1)) n) (n+1):=by
       refine i8 O h1 d1 ?_
       rw [gm (by omega),gm (by omega),if_pos ⟨by omega,by omega⟩,if_neg (by omega)]
       obtain ⟨a1,a2⟩:=he (n - (q+1)+n - 1 - (n - 1)) (by omega) (by omega)
       exact O.tr _ _ _ e' a1
      refine cr (fun r hr=> ?_) (kr O f _ (n+1) 0 (hp.rev _ _) (by omega) (by omega) (by omega) d2 (one _))
      exact ⟨hr.1,by omega,by omega,hr.2.2.2⟩
    · rw [if_neg q0]
      refine cr (fun r hr=> ?_) (kr O f p (n+1) 0 hp (by omega) (by omega) (by omega) (i8 O h1 h e') (one _))
      exact ⟨hr.1,by omega,by omega,hr.2.2.2⟩
  · rw [if_neg e]
    have e1:lt (g p n) (g p (n - 1))=false:=by simpa using e
    refine ⟨Pm.bd hp (by omega),Pm.bd hp (by omega),?_⟩
    show Tri lt N _ (if lt (g p (n - 1)) (g p n)=true then .ret (p,n,q) else kas_desc f p (n+1) (q+1))
    by_cases e2:lt (g p (n - 1)) (g p n)=true
    · rw [if_pos e2]
      exact ⟨hp,yZ _,(by show n≤n+(f+1);omega),hq,h,he⟩
    · rw [if_neg e2]
      have e3:lt (g p (n - 1)) (g p n)=false:=by simpa using e2
      refine cr (fun r hr=> ?_) (kr O f p (n+1) (q+1) hp (by omega) (by omega) (by omega) (i8 O h1 h e3) fun k k1 k2=> ?_)
      · exact ⟨hr.1,by omega,by omega,hr.2.2.2⟩
      · show lt (g p k) (g p n)=false∧lt (g p n) (g p k)=false
        by_cases kn:k=n
        · subst kn
          exact ⟨O.refl _,O.refl _⟩
        · obtain ⟨a1,a2⟩:=he k (by omega) (by omega)
          exact ⟨O.tr _ _ _ e3 a1,O.tr _ _ _ a2 e1⟩
theorem rE (O:Ord lt) {p:Array Nat} {n:Nat} (hp:Pm N p) (h1:1≤n) (hn:n≤N) (h:Dn lt p n):Tri lt N (fun r=>Pm N r.2∧1≤r.1∧r.1≤N∧Up lt r.2 r.1) (kas_tail3 n N p):=by
 unfold kas_tail3
 refine eL (cr (fun m hm=> ?_) (rF O (hp.rev 0 n) (N - n) n h1 (by omega) (wS (by rw [hp.size];exact hn) h)))
 exact ⟨hp.rev 0 n,by omega,by omega,hm.2.2.1⟩
theorem j5 (O:Ord lt) {p:Array Nat} {n:Nat} (hp:Pm N p) (hn:n+1≤N) (h:Dn lt p (n+1)):Tri lt N (fun r=>Pm N r.2∧1≤r.1∧r.1≤N∧Up lt r.2 r.1) (kas_descPart n N p):=by
 unfold kas_descPart
 refine eL (cr (fun r hr=> ?_) (kr O (N - (n+1)) p (n+1) 0 hp (by omega) (by omega) (by omega) h fun k k1 k2=> ?_))
 · obtain ⟨a1,a2,a3,a4,a5,a6⟩:=hr
   split
   · exact rE O (a1.rev _ _) (by omega) (by omega) (nj O (by rw [a1.size];omega) a4 a5 a6)
   · exact rE O a1 (by omega) (by omega) a5
 · have:k=n:=by omega
   subst this
   exact ⟨O.refl _,O.refl _⟩
theorem uS (O:Ord lt) {p:Array Nat} (hp:Pm N p) (hN:1≤N):Tri lt N (fun r=>Pm N r.2∧1≤r.1∧r.1≤N∧Up lt r.2 r.1) (kas_count N p):=by
 unfold kas_count
 have u1:Up lt p 1:=fun i j hij hj=>by
  have:i=0:=by omega
  have:j=0:=by omega
  subst_vars
  exact O.refl _
 refine eL (cr (fun n hn=> ?_) (rF O hp (N - 1) 1 (yZ _) (by omega) u1))
 obtain ⟨b1,b2,b3,b4⟩:=hn
 by_cases e:(n==N)=true
 · rw [if_pos e]
   exact ⟨hp,b1,by omega,b3⟩
 · rw [if_neg e]
   have e':n≠N:=by simpa using e
   have l1:=b4 (by omega)
   by_cases n1:n > 1
   · rw [if_pos n1]
     refine ⟨Pm.bd hp (by omega),Pm.bd hp (by omega),?_⟩
     show Tri lt N _ (if lt (g p 0) (g p (n - 1))=true then .ret (n,p) else kas_descPart n N (kas_rev p 0 n))
     by_cases e2:lt (g p 0) (g p (n - 1))=true
     · rw [if_pos e2]
       exact ⟨hp,b1,by omega,b3⟩
     · rw [if_neg e2]
       have e3:lt (g p 0) (g p (n - 1))=false:=by simpa using e2
       have alike:∀i j,i < n→j < n→lt (g p i) (g p j)=false:=fun i j hi hj=>
        O.tr (g p j) (g p 0) (g p i) (O.tr _ _ _ (b3 j (n - 1) (by omega) (by omega)) e3) (b3 0 i (zG _) hi)
       have hs:=hp.size
       refine j5 O (hp.rev 0 n) (by omega) (i8 O (by omega) (fun i j hij hj=> ?_) ?_)
       · rw [gm (by omega),gm (by omega),if_pos ⟨zG _,by omega⟩,if_pos ⟨zG _,hj⟩]
         exact alike _ _ (by omega) (by omega)
       · rw [gm (by omega),gm (by omega),if_pos ⟨zG _,by omega⟩,if_neg (by omega)]
         exact O.tr _ _ _ (O.asym _ _ l1) (alike _ _ (by omega) (by omega))
   · rw [if_neg n1]
     have en:n=1:=by omega
     subst en
     refine j5 O hp (by omega) (i8 O (yZ _) (fun i j hij hj=> ?_) (O.asym _ _ l1))
     have:i=0:=by omega
     have:j=0:=by omega
     subst_vars
     exact O.refl _
theorem kq (O:Ord lt) {p:Array Nat} {k:Nat} (hp:Pm N p) (hk:k < N) (h:Up lt p k):∀(f l r:Nat),l≤r→r≤k→r - l≤f→(∀i,i < l→lt (g p k) (g p i)=false)→(∀i,r≤i→i < k→lt (g p k) (g p i)=true)→
 Tri lt N (fun m=>m≤k∧(∀i,i < m→lt (g p k) (g p i)=false)∧∀i,m≤i→i < k→lt (g p k) (g p i)=true) (kas_place p k f l r)
 |0,l,r,h1,h2,h3,a,b=>by
  have:l=r:=by omega
  subst this
  exact ⟨h2,a,b⟩
 |f+1,l,r,h1,h2,h3,a,b=>by
  show Tri lt N _ (if l≥r then .ret l else .ask (p.getD k 0) (p.getD ((l+r) / 2) 0) fun c=>if c=true then kas_place p k f l ((l+r) / 2) else kas_place p k f ((l+r) / 2+1) r)
  by_cases e:l≥r
  · rw [if_pos e]
    have:l=r:=by omega
    subst this
    exact ⟨h2,a,b⟩
  · rw [if_neg e]
    refine ⟨Pm.bd hp hk,Pm.bd hp (by omega),?_⟩
    show Tri lt N _ (if lt (g p k) (g p ((l+r) / 2))=true then kas_place p k f l ((l+r) / 2) else kas_place p k f ((l+r) / 2+1) r)
    by_cases c:lt (g p k) (g p ((l+r) / 2))=true
    · rw [if_pos c]
      refine kq O hp hk h f l ((l+r) / 2) (by omega) (by omega) (by omega) a fun i i1 i2=> ?_
      by_cases q:r≤i
      · exact b i q i2
      · exact O.up c (h _ _ i1 i2)
    · rw [if_neg c]
      have c':lt (g p k) (g p ((l+r) / 2))=false:=by simpa using c
      refine kq O hp hk h f ((l+r) / 2+1) r (by omega) h2 (by omega) (fun i i1=> ?_) b
      exact O.tr _ _ _ (h i ((l+r) / 2) (by omega) (by omega)) c'
theorem wj (O:Ord lt):∀(f:Nat) (p:Array Nat) (k:Nat),Pm N p→k+f≤N→Up lt p k→Tri lt N (fun q=>Pm N q∧Up lt q (k+f)) (kas_bin f p k)
 |0,p,k,hp,_,h=>⟨hp,h⟩
 |f+1,p,k,hp,hk,h=>by
  have hs:=hp.size
  show Tri lt N _ ((kas_place p k k 0 k).bind fun l=>kas_bin f (bubble p k (k - l)) (k+1))
  refine eL (cr (fun l hl=> ?_) (kq O hp (by omega) h k 0 k (zG _) (yZ _) (by omega) (fun i hi=>absurd hi (by omega)) fun i h1 h2=>absurd h1 (by omega)))
  obtain ⟨l1,l2,l3⟩:=hl
  have el:k - (k - l)=l:=by omega
  have hb:∀i,g (bubble p k (k - l)) i=if i=l then g p k else if l < i∧i≤k then g p (i - 1) else g p i:=fun i=>by
   rw [yS (by omega) (by omega),el]
  have u:Up lt (bubble p k (k - l)) (k+1):=by
   intro i j hij hj
   rw [hb,hb]
   by_cases jl:j=l
   · rw [if_pos jl]
     by_cases il:i=l
     · rw [if_pos il]
       exact O.refl _
     · rw [if_neg il,if_neg (by omega)]
       exact l2 i (by omega)
   · rw [if_neg jl]
     by_cases j2:l < j∧j≤k
     · rw [if_pos j2]
       by_cases il:i=l
       · rw [if_pos il]
         exact O.asym _ _ (l3 (j - 1) (by omega) (by omega))
       · rw [if_neg il]
         by_cases i2:l < i∧i≤k
         · rw [if_pos i2]
           exact h _ _ (by omega) (by omega)
         · rw [if_neg i2]
           exact h _ _ (by omega) (by omega)
     · rw [if_neg j2,if_neg (by omega),if_neg (by omega)]
       exact h _ _ hij (by omega)
  refine cr (fun q hq=> ?_) (wj O f _ (k+1) (hp.of (bubble_perm _ _ _)) (by omega) u)
  rw [show k+(f+1)=k+1+f by omega]
  exact hq
theorem wW (O:Ord lt) (hN:1≤N):Tri lt N (fun p=>Pm N p∧Up lt p N) (kas_sort N):=by
 unfold kas_sort
 have h0:Pm N (List.toArray (List.range N)):=by
  unfold Pm
  simp
 refine eL (cr (fun r hr=> ?_) (uS O h0 hN))
 obtain ⟨a1,a2,a3,a4⟩:=hr
 by_cases e:r.1 < N
 · rw [if_pos e]
   have em:max r.1 1=r.1:=by omega
   rw [em]
   have:=wj O (N - r.1) r.2 r.1 a1 (by omega) a4
   rw [show r.1+(N - r.1)=N by omega] at this
   exact this
 · rw [if_neg e]
   have:r.1=N:=by omega
   rw [this] at a4
   exact ⟨a1,a4⟩
end Srt
namespace L2
open PySem
section
variable {M:Model} {prog:Program} {w:World} {A:Around} {E:Value→Shared→Prop} {h:Heap} {g:Array GenState} {d:Drawn} {t:Nat} {os:OsState}
variable {nm q:Str} {C N:Addr} {bs bm bmB:List Value} {hdct:Bool} {sn:List Str} {sub:List Value} {ab:Bool} {col:Option Bool} {dd:Option Addr} {k0 k1 k2 k3 k5:Option Value} {B newId initId:String}
structure Line (B:String) (bm:List Value):Prop where
 own:bm.contains (.type B)=true
 top:bm.contains (.type "BaseException")=true
 attr:bm.contains (.type "AttributeError")=false
 name:bm.contains (.type "NameError")=false
theorem Line.cons {C:Addr} (l:Line B bm):Line B (.ref C::bm):=
 ⟨by rw [List.contains_cons,l.own,Bool.or_true],by rw [List.contains_cons,l.top,Bool.or_true],by rw [List.contains_cons,l.attr];rfl,by rw [List.contains_cons,l.name];rfl⟩
theorem vD (Fn:ExcBaseFacts B newId initId bmB) (l:Line B bm) {args:List Value} {Q:Unit→Shared→Prop}
 (oC:h.get? C=some (excClassObj nm q C N bs bm hdct sn sub ab col dd k0 k1 k2 k3 k5 newId)) (z:Q () ⟨h,g,d,t,os⟩):
 wpAny M A (checkBuiltinCall newId ⟨.ref C::args,[]⟩) Q E ⟨h,g,d,t,os⟩:=by
 have own:=(l.cons (C:=C)).own
 have st:=Fn.noStar
 simp only [checkBuiltinCall,Fn.newKind,Fn.newSplit,Fn.newRow]
 repeat
  first
  |refine wpAny_loadPart_at oC ?_
  |(refine wpAny_isSubtype_exc oC ?_;rw [own])
  |refine wpAny_staticBase_exc oC ?_
  |refine wpAny_madeBy_exc oC ?_
  |simp only [bne_self_eq_false,zy,if_false]
  |wp_step
 exact z
theorem vz (Fn:ExcBaseFacts B newId initId bmB) (l:Line B bm) {args:List Value} {R:Result→Shared→Prop}
 (oC:h.get? C=some (excClassObj nm q C N bs bm hdct sn sub ab col dd k0 k1 k2 k3 k5 newId)) (sz:args.length≤sizeLine)
 (z:R (.ok (.ret (.ref (h.objs.size+1)))) ⟨(h.push {cls:= .type "tuple",data:= .seq args.toArray}).push {cls:= .ref C,data:= .fields #[.ref h.objs.size, .none, .none, .none, .bool false, .none]},g,d,t,os⟩):
 codeAny (model prog w) A (.builtin newId ⟨.ref C::args,[]⟩) R ⟨h,g,d,t,os⟩:=by
 have en:=Fn.ends
 have c1:=(l.cons (C:=C)).own
 have c2:=(l.cons (C:=C)).attr
 have c3:=(l.cons (C:=C)).name
 refine codeAny_builtinAt Fn.entry ?_
 unfold Builtin.«BaseException.__new__»
 refine wpAt_bind ?_
 show wpAt _ _ _ (stack >>=_) _ _ _
 refine wpAt_bind (wpAt_stack fun p below=>wpAt_of_wpAny ?_)
 wp_walk
 refine wpAt_of_wpAny ?_
 rw [Fn.owner]
 repeat
  first
  |with_reducible refine wpAny_madeHere_exc Fn.canon oC ?_
  |with_reducible refine wpAny_loadPart_at oC ?_
  |(with_reducible refine wpAny_isSubtype_exc oC ?_;first|rw [c1]|rw [c2]|rw [c3])
  |wp_step
 show R _ _
 rw [Heap.size_push]
 exact z
theorem jC (Fn:ExcBaseFacts B newId initId bmB) (l:Line B bm) {K:PySem.W.Frag} {args:List Value} {fI:Addr} {Q:Fin→Shared→Prop}
 (oC:h.get? C=some (excClassObj nm q C N bs bm hdct sn sub ab col dd k0 k1 k2 k3 k5 newId)) (X:K.In h) (hi:PySem.W.findIn K (.ref C) "__init__"=some (some (.ref fI))) (hf:PySem.W.isFn K (.ref fI)=true) (sz:args.length≤sizeLine)
 (z:∀h' e,Heap.MadeExcOf h h' e (.ref C) args→e=h.objs.size+1→
  wpAny (model prog w) A (call (.ref fI) (.ref e::args)) (fun r s'=>r= .none∧Q (.done (.ret (.ref e))) s') E ⟨h',g,d,t,os⟩):
 wpAny (model prog w) A (Builtin.«type.__call__» ⟨.ref C::args,[]⟩) Q E ⟨h,g,d,t,os⟩:=by
 repeat
  first
  |with_reducible refine wpAny_loadPart_at oC ?_
  |with_reducible refine wpAny_madeBy_exc oC ?_
  |wp_step
 refine codeAny_call_builtin_code (Code.quiet_builtin _ Fn.quiet) (vD Fn l oC ?_)
 refine vz Fn l oC sz ?_
 show wpAny _ _ _ _ _ _
 have up:∀b o,h.get? b=some o→((h.push {cls:= .type "tuple",data:= .seq args.toArray}).push {cls:= .ref C,data:= .fields #[.ref h.objs.size, .none, .none, .none, .bool false, .none]}).get? b=some o:=
  fun b o e=>Heap.get?_push_of_some _ (Heap.get?_push_of_some _ e)
 have oC1:=up _ _ oC
 have it:((h.push {cls:= .type "tuple",data:= .seq args.toArray}).push
  {cls:= .ref C,data:= .fields #[.ref h.objs.size, .none, .none, .none, .bool false, .none]}).get? (h.objs.size+1)=some
  {cls:= .ref C,data:= .fields #[.ref h.objs.size, .none, .none, .none, .bool false, .none]}:=by heap_get
 have me:(Value.ref C::bm).contains (.ref C)=true:=by simp
 unfold isInstance
 repeat
  first
  |with_reducible refine wpAny_loadPart_at it ?_
  |(with_reducible refine wpAny_isSubtype_exc oC1 ?_;rw [me])
  |wp_step
 show wpAny _ _ (typeLookup (.ref C) _) _ _ _
 have Lk:=PySem.W.looks_findIn (M:=model prog w) (X.keeps up) hi
 refine Lk.here ?_
 refine wpAny_holding (wpAny_bind ?_)
 have Bf:=PySem.W.bind_fn (M:=model prog w) (X.keeps up) (.ref (h.objs.size+1)) (beq_iff_eq.mp hf)
 refine Bf.here ?_
 refine wpAny_bind (wpAny_mono (z _ (h.objs.size+1) ⟨up,Heap.get?_none_of_le (Nat.le_succ _),h.objs.size,it,Heap.get?_none_of_le (yZ _),?_⟩ rfl) (fun r s' hr=> ?_) fun _ _ x=>x)
 · exact Heap.get?_push_of_some _ (Heap.get?_push_at rfl rfl)
 · obtain ⟨rfl,hQ⟩:=hr
   wp_walk
   exact hQ
theorem uA (Fn:ExcBaseFacts B newId initId bmB) (l:Line B bm) {K:PySem.W.Frag} {args:List Value} {fI:Addr} {Q:Value→Shared→Prop}
 (oC:h.get? C=some (excClassObj nm q C N bs bm hdct sn sub ab col dd k0 k1 k2 k3 k5 newId)) (X:K.In h) (hi:PySem.W.findIn K (.ref C) "__init__"=some (some (.ref fI))) (hf:PySem.W.isFn K (.ref fI)=true) (sz:args.length≤sizeLine)
 (z:∀h' e,Heap.MadeExcOf h h' e (.ref C) args→e=h.objs.size+1→
  wpAny (model prog w) (A.under (.builtin "type.__call__" ⟨.ref C::args,[]⟩)) (call (.ref fI) (.ref e::args)) (fun r s'=>r= .none∧Q (.ref e) s') E ⟨h',g,d,t,os⟩):
 wpAny (model prog w) A (call (.ref C) args) Q E ⟨h,g,d,t,os⟩:=by
 have f1:=tc_lookup
 have f2:=tc_bind (.ref C)
 have ty:(⟨h,g,d,t,os⟩:Shared).TypeIs (.ref C) "type":=⟨_,oC,rfl⟩
 refine wpAny_call (codeAny_of_tree ?_)
 show wpAny _ _ (callAny (.ref C) _) _ _ _
 repeat
  any_goals
   first
   |assumption
   |with_reducible refine wpAny_loadPart_at oC ?_
   |wp_step
 refine ⟨rfl,?_⟩
 exact codeAny_call_builtin_at (Code.quiet_builtin _ (by decide +kernel)) entry_typeCall (wpAny_check_type_call_sub oC (jC Fn l oC X hi hf sz fun h' e hm ee=>z h' e hm ee))
end
end L2
namespace L2
section
open PySem
variable {prog:Program} {w:World} {A:Around} {E:Value→Shared→Prop} {h:Heap} {g:Array GenState} {d:Drawn} {t:Nat} {os:OsState}
variable {nm q:Str} {C N:Addr} {bs bm bmB:List Value} {hdct:Bool} {sn:List Str} {sub:List Value} {ab:Bool} {col:Option Bool} {dd:Option Addr} {k0 k1 k2 k3 k5:Option Value} {B newId nid initId:String}
theorem tL (Fn:ExcBaseFacts B nid initId bmB) (l:Line B bm) {M:Model} {e:Addr} {oe:Obj} {args:List Value} {Q:Unit→Shared→Prop}
 (oC:h.get? C=some (excClassObj nm q C N bs bm hdct sn sub ab col dd k0 k1 k2 k3 k5 newId)) (oE:h.get? e=some oe) (cE:oe.cls= .ref C) (z:Q () ⟨h,g,d,t,os⟩):
 wpAny M A (checkBuiltinCall initId ⟨.ref e::args,[]⟩) Q E ⟨h,g,d,t,os⟩:=by
 have own:=(l.cons (C:=C)).own
 have st:=Fn.noStar
 simp only [checkBuiltinCall,Fn.initKind,Fn.initSplit,Fn.initRow]
 repeat
  first
  |(with_reducible refine wpAny_loadPart_at oE ?_;rw [cE])
  |with_reducible refine wpAny_loadPart_at oC ?_
  |(with_reducible refine wpAny_isSubtype_exc oC ?_;rw [own])
  |wp_step
 refine wpAny_onRaise ?_
 rw [show∀(a b:String) (n:Nat),Bind.check ⟨.positional,"*",B, .self,[⟨"args", .varPos,false⟩]⟩ a b n (List.map (fun x=>x.fst) ({pos:=Value.ref e::args}:Args).kw)=pure () from fun a b n=>check_star_args _ _ _ _ _ _]
 exact wpAny_pure z
theorem jz (Fn:ExcBaseFacts B nid initId bmB) (l:Line B bm) {e t0:Addr} {args:List Value} {Q:Value→Shared→Prop}
 (oC:h.get? C=some (excClassObj nm q C N bs bm hdct sn sub ab col dd k0 k1 k2 k3 k5 newId)) (oE:h.get? e=some {cls:= .ref C,data:= .fields #[.ref t0, .none, .none, .none, .bool false, .none]}) (sz:args.length≤sizeLine)
 (z:∀h' t1,(∀b o,b≠e→h.get? b=some o→h'.get? b=some o)→h'.get? e=some {cls:= .ref C,data:= .fields #[.ref t1, .none, .none, .none, .bool false, .none]}→Q .none ⟨h',g,d,t,os⟩):
 wpAny (model prog w) A (call (.builtin initId) (.ref e::args)) Q E ⟨h,g,d,t,os⟩:=by
 refine wpAny_call (codeAny_call_builtin Fn.init.plain Fn.initEntry (tL Fn l oC oE rfl ?_))
 wp_walk
 refine z _ h.objs.size (fun b o hb e1=> ?_) ?_
 · rw [Heap.get?_update_other _ _ (Ne.symm hb)]
   exact Heap.get?_push_of_some _ e1
 · rw [Heap.get?_update_self _ (Heap.get?_push_of_some _ oE) rfl]
   rfl
end
open PySem PySem.Spec PyProof.Rows
noncomputable def Exo (C e:Addr):HO:= .ext fun h=>∃t,h.get? e=some {cls:= .ref C,data:= .fields #[.ref t, .none, .none, .none, .bool false, .none]}
theorem ui {P:Program} {w:World} {H:Hp} {h:Heap} {C e t:Addr} (x:h.get? e=some {cls:= .ref C,data:= .fields #[.ref t, .none, .none, .none, .bool false, .none]}):ObjOk P w H h e (Exo C e):=
 ⟨⟨t,x⟩,⟨_,x⟩,fun _ _ ⟨t',y⟩ k=>⟨t',k _ y⟩⟩
theorem wR {H:Hp} {a:Addr} {o:HO} (e:H a=some o):upd H a o=H:=by
 funext b
 unfold upd
 split
 · rename_i q
   rw [q,e]
 · rfl
structure XCls (K:PySem.W.Frag) (C fI:Addr):Prop where
 ex:∃nm q N bs bm hdct sn sub ab col dd k0 k1 k2 k3 k5,K.lookup C=some (excClassObj nm q C N bs bm hdct sn sub ab col dd k0 k1 k2 k3 k5 "ValueError.__new__")∧Line "ValueError" bm
 init:PySem.W.findIn K (.ref C) "__init__"=some (some (.ref fI))
 fn:PySem.W.isFn K (.ref fI)=true
 kp:PySem.W.keepIn K (.ref C)=true
section
variable {X:Cx} {CX:CXT} {k:Nat} {f C:Addr} {fd:FuncData} {ps:List Str} {sp:Sp} {E:XK} {x:Str} {p pos apos:Pos} {e:Expr} {es:List Expr} {t:TA}
def wY (s₀:Shared) (C:Addr) (sp:Sp) (E:XK) (t:TA):TE:=fun σ H Q=>t σ H fun vs H1=>∀x,H1 x=none→s₀.heap.get? x=none→sp (.ref x::vs) (upd H1 x (Exo C x)) (fun v H2=>v= .non∧Q (.ref x) H2) E
theorem fm (M:XCls X.K C f) (F:FnOk X.prog X.w X.K X.mg X.base CX k f fd ps sp) (hr:Room (k+1) X.A) (hg:Gl X x) (hm:X.mg x=some (.ref C)) (hb:Binds X.K fd ps []) (hx:iJ CX X E)
 (ha:PA X (e::es) t) (hsz:(e::es).length≤100) (hdb:(x==("__debug__":Str))=false:=by decide) (he:starEach (e::es) X.env=(false,eval e X.env)::starEach es X.env:=by rfl) (hpl:(backTo pos (starEach es X.env)).any (·.1)=false:=by rfl)
 (hlen:∀vs H Q E',sp vs H Q E'→vs.length≤1000):PE X (.Call (.Name x p) (e::es) [] pos) (wY X.s₀ C sp E t):=by
 intro pins s σ H Q I h
 refine wpAny_Call_Name_kw (g6 I hg hm ?_ hdb)
 refine PySem.W.callWith_K (h₀:=X.base) I.ok.mod.kin M.kp (thn (ha pos pins s σ H _ I h) fun us s1 ⟨vs,H1,I1,r,z⟩=>⟨I1.kIn,?_⟩) he hpl
 obtain ⟨nm,q,N,bs,bm,hdct,sn,sub,ab,col,dd,k0,k1,k2,k3,k5,hC,hl⟩:=M.ex
 have oC:=I1.kIn _ _ hC
 have f1:H1 (s1.heap.objs.size+1)=none:=I1.hok.fresh (Nat.le_succ _)
 have f2:X.s₀.heap.get? (s1.heap.objs.size+1)=none:=Heap.get?_none_of_le (zJ I1.sz (Nat.le_succ _))
 have hq:=z _ f1 f2
 have e1:vs.length=us.length:=r.length
 have l1:=hlen _ _ _ _ hq
 rw [zw] at l1
 obtain ⟨hh,g,d,tk,os⟩:=s1
 refine uA (K:=X.K) PySem.F.excBase_ValueError hl oC I1.kIn M.init M.fn (show us.length≤sizeLine from Nat.le_of_lt (jJ (by omega))) fun h' e' hm' ee=> ?_
 subst ee
 obtain ⟨t0,ht0,_⟩:=hm'.there
 have I2:=I1.laid (t':=tk) (o:=Exo C (hh.objs.size+1)) (a:=hh.objs.size+1) hm'.keeps (Nat.le_succ _) (ui ht0)
 have r2:Vals (V.ref (hh.objs.size+1)::vs) (Value.ref (hh.objs.size+1)::us):= .cons rfl r
 have hl2:(Value.ref (hh.objs.size+1)::us).length=ps.length:=by
  have e:=r2.length
  rw [F.len _ _ _ _ hq] at e
  exact e.symm
 refine wpAny_call (codeAny_mono (F.run _ X.stack _ _ ⟨Value.ref (hh.objs.size+1)::us,[]⟩ (Value.ref (hh.objs.size+1)::us) _ _ E (hr.make C us [])
  (I2.env0.make C us []) (by have:=hb _ (Value.ref (hh.objs.size+1)::us) I2.kIn (by rw [A0];exact hl2);rw [A0] at this;exact this) r2 hq) fun r s' hq'=> ?_)
 cases r with
 |error e=>exact hx pins σ _ _ e s' I2 hq'
 |ok fl=>
  cases fl with
  |ret u=>
   obtain ⟨v,H',I3,rv,ev,q3⟩:=I2.after hq'
   subst ev
   exact ⟨rv,⟨V.ref (hh.objs.size+1),H',I3,rfl,q3⟩⟩
  |next=>exact False.elim hq'
  |brk=>exact False.elim hq'
  |cont=>exact False.elim hq'
def ql (K:PySem.W.Frag) (t:TA):TE:=fun σ H Q=>t σ H fun vs H1=>∃x C fI r,vs= .ref x::r∧r.length≤1000∧H1 x=some (Exo C x)∧XCls K C fI∧Q .non H1
theorem oG (K:PySem.W.Frag):PySem.W.findCls K (.type "ValueError") (.type "type") "__init__"=some (.val (.builtin "ValueError.__init__")):=by kernel_rfl
theorem mn (hg:Gl X "ValueError") (hm:X.mg "ValueError"=none) (ha:PA X (e::es) t) (he:starEach (e::es) X.env=(false,eval e X.env)::starEach es X.env:=by rfl) (hpl:(backTo pos (starEach es X.env)).any (·.1)=false:=by rfl)
 {pl:Sem Bool} (ht:eval (.Call (.Attribute (.Name "ValueError" p) "__init__" apos) (e::es) [] pos) X.env=(do
  let ov←eval (.Name "ValueError" p) X.env
  standAt apos.atName
  let (f,first)←holding [ov] (getMethod ov "__init__" pl)
  callWith pos f first (backTo pos (starEach (e::es) X.env)) (backToKw pos (keywordEach [] X.env))):=by rfl):
 PE X (.Call (.Attribute (.Name "ValueError" p) "__init__" apos) (e::es) [] pos) (ql X.K t):=by
 intro pins s σ H Q I h
 obtain ⟨m,F⟩:=I.fr
 refine PySem.W.methodCall_KW (pl:=pl) (gy I hg hm (u:= .type "ValueError") (by kernel_rfl) ?_) ht
 refine PySem.W.method_type F I.ok.mod.kin (by kernel_rfl) (by decide +kernel) (oG X.K) (by decide +kernel) ?_
 refine PyProof.Rows.callWith_builtin1 (thn (ha pos pins _ σ H _ (I.tok _) h) fun us s1 ⟨vs,H1,I1,r1,y,C,fI,r,ev,hz,hH,hX,q1⟩=> ?_) he hpl
 subst ev
 cases r1 with
 | @cons _ u0 _ ur q0 r1=>
  cases (show u0=Value.ref y from q0)
  obtain ⟨nm,q,N,bs,bm,hdct,sn,sub,ab,col,dd,k0,k1,k2,k3,k5,hC,hl⟩:=hX.ex
  have oC:=I1.kIn _ _ hC
  obtain ⟨⟨t0,oE⟩,_⟩:=(show ObjOk X.prog X.w H1 s1.heap y (Exo C y) from I1.hok y _ hH)
  have e1:r.length=ur.length:=r1.length
  obtain ⟨hh,g,d,tk,os⟩:=s1
  refine jz PySem.F.excBase_ValueError hl oC oE (Nat.le_of_lt (jJ (by omega))) fun h' t1 kk oE'=> ?_
  have I2:=I1.write (x:=y) (e:=y) (o:=Exo C y) (t':=tk) (by rw [hH];exact True.intro) (.inl rfl) kk ⟨_,oE'⟩ (ui oE')
  rw [wR hH] at I2
  exact ⟨.non,H1,I2,rfl,q1⟩
end
open PySem PySem.Spec PyProof.Rows
def unt (H:Hp) (e:Addr):Hp:=fun b=>if b=e then none else H b
theorem eK {H:Hp} {e:Addr}:unt H e e=none:=by unfold unt;rw [if_pos rfl]
theorem eB {H:Hp} {e b:Addr} (h:b≠e):unt H e b=H b:=by unfold unt;rw [if_neg h]
theorem iP {H:Hp} {e:Addr} {o:HO} (h:H e=none):unt (upd H e o) e=H:=by
 funext b
 by_cases q:b=e
 · rw [q,eK,h]
 · rw [eB q,aG q]
theorem wT {P:Program} {w:World} {H:Hp} {h:Heap} {C e:Addr} (x:HOk P w H h) (he:H e=some (Exo C e)):HOk P w (unt H e) h:=fun b o q=>by
 have nb:b≠e:=by
  intro z
  rw [z,eK] at q
  cases q
 rw [eB nb] at q
 refine (x b o q).stay (fun _ _ _ r=>r) (fun c r=> ?_) (fun c xs r=> ?_)
 · rw [eB]
   · exact r
   · intro z
     rw [z,he] at r
     cases r
 · rw [eB]
   · exact r
   · intro z
     rw [z,he] at r
     cases r
def uJ (X:Cx) (E:XK):Prop:=∀(pins:List (Addr×Obj)) (σ:St) (H:Hp) (s:Shared) (e C:Addr),Inv X pins σ H s→H e=some (Exo C e)→X.s₀.heap.get? e=none→E (.ref C) none (unt H e)→X.xe (.ref e) s
section
variable {X:Cx} {C fI:Addr} {E:XK} {pos:Pos} {ce:Expr} {te:TE}
def wX (s₀:Shared) (C:Addr) (E:XK) (te:TE):TS:=fun _ σ H=>te σ H fun v H1=>∃e,v= .ref e∧H1 e=some (Exo C e)∧s₀.heap.get? e=none∧E (.ref C) none (unt H1 e)
theorem fj (hc:X.calm=true) (hX:XCls X.K C fI) (he:PE X ce te) (hx:uJ X E):PS X (.Raise (some ce) none pos) (wX X.s₀ C E te):=by
 intro pins s σ H D I h
 obtain ⟨nm,q,N,bs,bm,hdct,sn,sub,ab,col,dd,k0,k1,k2,k3,k5,hC,hl⟩:=hX.ex
 show wpAny (model X.prog X.w) X.A (do standAt pos;raiseStmt X.env (some (do let v←eval ce X.env;standAt pos;pure v)) none) _ _ s
 refine wpAny_bind (wpAny_standAt (wpAny_raiseStmt_made_sub (C:=C) (nm:=nm) (q:=q) (N:=N) (bs:=bs) (bm:=bm) (hdct:=hdct) (sn:=sn) (sub:=sub) (ab:=ab) (col:=col) (dd:=dd) (k0:=k0) (k1:=k1) (k2:=k2) (k3:=k3) (k5:=k5) (newId:="ValueError.__new__") hl.top (I.ok.hd hc) ?_))
 refine wpAny_bind (thn (he pins s σ H _ I h) fun v s1 ⟨x,H1,I1,r1,e,ex,hH,hn,q1⟩=>wpAny_bind (wpAny_standAt (wpAny_pure ?_)))
 subst ex
 cases (show v=Value.ref e from r1)
 obtain ⟨⟨t0,oE⟩,_⟩:=(show ObjOk X.prog X.w H1 s1.heap e (Exo C e) from I1.hok e _ hH)
 exact ⟨e,t0,rfl,I1.kIn _ _ hC,oE,hx pins σ H1 s1 e C I1 hH hn q1⟩
end
noncomputable def CX1 (P:Program) (w:World):CXT:=fun outer H s E e s'=>∃(a C:Addr) (a0:Value) (B:Heap) (H':Hp),e= .ref a∧s'.os=s.os∧AllBare s'.gens∧s.heap.get? a=none∧H' a=none∧HOk P w H' B∧
 Heap.FlyingW B outer a (.ref C) a0 s'.heap∧(∀b o,s.heap.get? b=some o→Idl (H b)→b∉frs outer→B.get? b=some o)∧(∀b o,s.heap.get? b=some o→H b=none→b∈frs outer→∃sl,s'.heap.get? b=some {o with slots:=sl})∧
 (∀b o,s.heap.get? b=some o→H b=none→H' b=none)∧(∀b o,s.heap.get? b=some o→b∉frs outer→∃o',B.get? b=some o')∧
 (∀b xs,H b=some (.tup xs)→H' b=some (.tup xs))∧(∀b o u,H b=some (.frz o u)→H' b=some (.frz o u))∧(∀b ps,H b=some (.tbl ps)→∃more,H' b=some (.tbl (ps++more)))∧E (.ref C) none H'
theorem frs_cons {env:Env} {outer:List Env} {b:Addr}:b∈frs (env::outer)↔env.frame=some b∨b∈frs outer:=by
 unfold frs
 rw [List.filterMap_cons]
 cases q:env.frame with
 |none=>simp
 |some L=>
  simp only [zc,Option.some.injEq]
  constructor
  · rintro (z|z)
    · exact .inl z.symm
    · exact .inr z
  · rintro (z|z)
    · exact .inl z.symm
    · exact .inr z
theorem eO {P:Program} {w:World} {K:PySem.W.Frag} {mg:Str→Option Value} {base:Heap} {N:List Str} {qual:Str} {scope:Scope} {f:Addr} {cd:Value} {A:Around} {outer:List Env} {s:Shared} {H:Hp} {E:XK}:
 uJ (cxOf (CX1 P w) P w K mg base N qual scope f cd A outer s H E) E:=by
 intro pins σ H1 s1 e C I hH hn hE
 obtain ⟨⟨t0,oE⟩,_⟩:=(show ObjOk P w H1 s1.heap e (Exo C e) from I.hok e _ hH)
 have stk:s1.heap.FunFrames base (envOfC qual scope s.heap.objs.size f cd::outer):=I.stack
 have fre:∀b∈frs (envOfC qual scope s.heap.objs.size f cd::outer),H1 b=none:=I.stkFree
 have hfl:(envOfC qual scope s.heap.objs.size f cd).frame=some s.heap.objs.size:=rfl
 have hin:∀env∈(envOfC qual scope s.heap.objs.size f cd::outer),∀b,env.frame=some b→b∈e::frs (envOfC qual scope s.heap.objs.size f cd::outer):=fun env he b hb=>z6 _ (Ah.mpr ⟨env,he,hb⟩)
 have kB:∀b o,s1.heap.get? b=some o→b≠e→b∉frs (envOfC qual scope s.heap.objs.size f cd::outer)→(PySem.W.hideAll s1.heap (e::frs (envOfC qual scope s.heap.objs.size f cd::outer))).get? b=some o:=fun b o q h1 h2=>
  PySem.W.hideAll_get _ q fun z=>by
   rcases zc.mp z with z|z
   · exact h1 z
   · exact h2 z
 have nL:∀b o,s.heap.get? b=some o→b≠s.heap.objs.size:=fun b o q=>zg (Heap.lt_size q)
 have nfr:∀b o,s.heap.get? b=some o→b∉frs outer→b∉frs (envOfC qual scope s.heap.objs.size f cd::outer):=fun b o q h2 z=>by
  rcases frs_cons.mp z with z|z
  · rw [hfl] at z
    exact nL b o q (zu z).symm
  · exact h2 z
 have ne:∀b o,s.heap.get? b=some o→b≠e:=fun b o q z=>by
  rw [z] at q
  have hn':s.heap.get? e=none:=hn
  rw [hn'] at q
  cases q
 refine wpAny_leaving_firstW (base:=PySem.W.hideAll s1.heap (e::frs (envOfC qual scope s.heap.objs.size f cd::outer))) (a0:= .ref t0) (oe:= {cls:= .ref C,data:= .fields #[.ref t0, .none, .none, .none, .bool false, .none]}) (L:=s.heap.objs.size)
  I.ok.frames (PySem.W.funFrames_hide stk hin) hfl oE (fun b o q=>PySem.W.of_hideAll _ q) (PySem.W.hideAll_none _ yY) rfl rfl rfl fun h' hL=> ?_
 obtain ⟨z1,⟨_,_,z2⟩,z3,z4⟩:=hL
 have un:Un (frs outer) [] H H1 s.heap s1.heap:=I.base
 refine ⟨e,C, .ref t0,_,unt H1 e,rfl,I.os,I.bare,hn,eK,?_,⟨z1,PySem.W.hideAll_none _ yY,z2,z3⟩,?_,?_,?_,?_,?_,?_,?_,hE⟩
 · intro b o q
   have nb:b≠e:=by
    intro z
    rw [z,eK] at q
    cases q
   refine (wT I.hok hH b o q).stay (fun c v hc r=>kB c v r ?_ ?_) (fun _ r=>r) fun _ _ r=>r
   · rcases hc with z|z
     · rw [z]
       exact nb
     · intro y
       rw [y,eK] at z
       cases z
   · intro y
     have y':=fre c y
     rcases hc with z|z
     · rw [eB nb,←z,y'] at q
       cases q
     · by_cases ce:c=e
       · rw [ce,eK] at z
         cases z
       · rw [eB ce,y'] at z
         cases z
 · intro b o q n hb
   exact kB b o (un.keep b o q n hb (by simp)) (ne b o q) (nfr b o q hb)
 · intro b o q n hb
   obtain ⟨sl,e1⟩:=un.slot b o q n hb (by simp)
   have nd:=(stk.mem (b:=b) (frs_cons.mpr (.inr hb))).2
   obtain ⟨o1,e2,d2⟩:=nd
   rw [e1] at e2
   cases e2
   obtain ⟨sl',e3⟩:=z4 b _ e1 d2
   exact ⟨sl',e3⟩
 · intro b o q n
   rw [eB (ne b o q)]
   exact un.free b o q n (by simp)
 · intro b o q hb
   obtain ⟨o',e1⟩:=un.there b o q (by simp)
   exact ⟨o',kB b o' e1 (ne b o q) (nfr b o q hb)⟩
 · intro b xs q
   have q1:=un.tups b xs q
   rw [eB]
   · exact q1
   · intro z
     rw [z,hH] at q1
     cases q1
 · intro b o u q
   have q1:=un.frzs b o u q
   rw [eB]
   · exact q1
   · intro z
     rw [z,hH] at q1
     cases q1
 · intro b ps q
   obtain ⟨more,q1⟩:=un.tbls b ps q
   refine ⟨more,?_⟩
   rw [eB]
   · exact q1
   · intro z
     rw [z,hH] at q1
     cases q1
theorem jf {X:Cx} {P:Program} {w:World}:iJ (CX1 P w) X E0:=fun _ _ _ _ _ _ _ h=>by
 obtain ⟨_,_,_,_,_,h⟩:=h
 exact h.2.2.2.2.2.2.2.2.2.2.2.2.2.2.elim
end L2
namespace L2
section
open PySem PySem.W Builtin Builtin.ObjectAttr Builtin.Getset_descriptor
variable {prog:Program} {w:World} {A:Around} {E:Value→Shared→Prop} {h:Heap} {g:Array GenState} {d:Drawn} {t:Nat} {os:OsState} {a C:Addr} {o:Obj} {K:Frag}
structure XIs (K:Frag) (C:Addr):Prop where
 cls:(clsIn K C).isSome=true
 ga:findIn K (.ref C) "__getattribute__"=some (some (.builtin "BaseException.__getattribute__"))
 hook:findIn K (.ref C) "__getattr__"=some none
 cl:findIn K (.ref C) "__class__"=some (some (.builtin "object.__class__"))
 mo:mroIn K C (.type "object")=some true
 mb:mroIn K C (.type "BaseException")=some true
theorem iG {M:Model} {n:Str} {r:Option Value} {Q:Option Value→Shared→Prop} (X:K.In h) (e:findIn K (.ref C) n=some r) (z:Q r ⟨h,g,d,t,os⟩):wpAny M A (typeLookup (.ref C) n) Q E ⟨h,g,d,t,os⟩:=
 (looks_findIn (M:=M) X e).at z
theorem tS {M:Model} {b:Value} {r:Bool} {Q:Bool→Shared→Prop} (X:K.In h) (e:mroIn K C b=some r) (z:Q r ⟨h,g,d,t,os⟩):wpAny M A (isSubtype (.ref C) b) Q E ⟨h,g,d,t,os⟩:=
 (looks_mroIn (M:=M) X e).at z
theorem jE {R:Result→Shared→Prop} {tp:Value} (Z:XIs K C) (X:K.In h) (hx:h.get? a=some o) (hc:o.cls= .ref C) (z:R (.ok (.ret (.ref C))) ⟨h,g,d,t,os⟩):
 codeAny (model prog w) A (.call (.builtin "getset_descriptor.__get__") ⟨[.builtin "object.__class__", .ref a,tp],[]⟩) R ⟨h,g,d,t,os⟩:=by
 have L0:Looks (model prog w) h (typeOf (.ref a)) (.ref C):=by
  have:=((Looks.ld (M:=model prog w) (part:=some headPart) hx).andThen (f:=fun o=>pure o.cls) .now)
  rw [hc] at this
  exact this
 have L1:=looks_mroIn (M:=model prog w) X Z.mo
 refine codeAny_call_builtin KF.slot_gs.plain KF.entry_gs (KF.slot_gs.check _ _ _ _ _ _ _ _ KF.type_class (KF.args_gs _ _ _) ?_)
 unfold Builtin.«getset_descriptor.__get__» descrGet
 rw [dga_obj]
 refine wpAny_bind (wpAny_pure ?_)
 unfold descrGetter descrCheckInstance descrNameAndClass isInstance
 simp only [KF.owner_class]
 repeat lk
 refine ⟨Code.quiet_builtin _ (by decide +kernel),codeAny_builtin KF.entry_class ?_⟩
 unfold Builtin.«object.__class__» shownTypeOf
 repeat lk
 exact z
theorem xE {M:Model} {nv:Value} {Q:Unit→Shared→Prop} (Z:XIs K C) (X:K.In h) (hx:h.get? a=some o) (hc:o.cls= .ref C) (z:Q () ⟨h,g,d,t,os⟩):
 wpAny M A (checkBuiltinCall "BaseException.__getattribute__" ⟨[.ref a,nv],[]⟩) Q E ⟨h,g,d,t,os⟩:=by
 have hk:builtinKind "BaseException.__getattribute__"=some .slot:=by decide +kernel
 have hs:splitId "BaseException.__getattribute__"=some ("BaseException","__getattribute__"):=by decide +kernel
 have ha:=PySem.F.args_bexc_ga (.ref a) nv
 simp only [checkBuiltinCall,hk,hs]
 refine wpAny_bind ?_
 unfold isInstance
 repeat
  first
  |(with_reducible refine wpAny_loadPart_at hx ?_;rw [hc])
  |with_reducible refine tS X Z.mb ?_
  |wp_step
 exact z
theorem qN {Q:Option Value→Shared→Prop} (Z:XIs K C) (X:K.In h) (hx:h.get? a=some o) (hc:o.cls= .ref C) (z:Q (some (.ref C)) ⟨h,g,d,t+1,os⟩):
 wpAny (model prog w) A (getAttr? (.ref a) "__class__") Q E ⟨h,g,d,t,os⟩:=by
 have f3:=PySem.F.excAttr_ValueError.ga.bind (.ref a)
 have b2:(Value.builtin "BaseException.__getattribute__"==Value.builtin "object.__getattribute__")=false:=by decide +kernel
 have b1:(onTheHeap (Value.ref C)&&Value.builtin "BaseException.__getattribute__"==Value.builtin "object.__getattribute__")=false:=by rw [b2];rfl
 have f5:=PySem.F.typeOf_object_class
 have f6:=PySem.F.slot_gs_get.lookup
 have f7:=PySem.F.slot_gs_set.lookup
 have hT5:(⟨h,g,d,t+1,os⟩:Shared).TypeIs (.builtin "object.__class__") "getset_descriptor":=PySem.F.typeOf_object_class
 unfold getAttr? getAttrBy?
 refine wpAny_bind (wpAny_mkText (wpAny_bind (wpAny_attempt ?_)))
 unfold getAttrBy
 repeat
  any_goals
   first
   |assumption
   |(with_reducible refine wpAny_loadPart_at hx ?_;rw [hc])
   |with_reducible refine iG X Z.ga ?_
   |with_reducible refine iG X Z.hook ?_
   |wp_step
 refine codeAny_call_builtin PySem.F.excAttr_ValueError.ga.plain PySem.F.entry_bexc_ga (xE Z X hx hc ?_)
 repeat
  any_goals
   first
   |assumption
   |(with_reducible refine wpAny_loadPart_at hx ?_;rw [hc])
   |with_reducible refine iG X Z.cl ?_
   |wp_step
 refine jE Z X hx hc ?_
 repeat
  any_goals
   first
   |assumption
   |wp_step
end
end L2
namespace L2
open PySem PySem.Spec PyProof.Rows
noncomputable def Cau (C a:Addr):HO:= .ext fun h=>∃o,h.get? a=some o∧o.cls= .ref C
theorem xY {P:Program} {w:World} {H:Hp} {h:Heap} {C a:Addr} {o:Obj} (x:h.get? a=some o) (c:o.cls= .ref C):ObjOk P w H h a (Cau C a):=
 ⟨⟨o,x,c⟩,⟨_,x⟩,fun _ _ ⟨o',y,c'⟩ k=>⟨o',k _ y,c'⟩⟩
theorem u6 {K:PySem.W.Frag} {C a:Addr} (Z:XIs K C):PySem.W.KitX K (.ref a) (.ref C) (fun h=>∃o,h.get? a=some o∧o.cls= .ref C) where
 ty:=fun M h _ ⟨o,e,c⟩=>by
  have:=((PySem.W.Looks.ld (M:=M) (part:=some headPart) e).andThen (f:=fun o=>pure o.cls) .now)
  rw [c] at this
  exact this
 it:=fun M h X _=>by
  have hc:=Z.cls
  unfold PySem.W.clsIn at hc
  split at hc
  · rename_i ho
    intro A' Q' E' s' k q
    unfold isType loadHead
    exact wpAny_bind (wpAny_loadPart (k _ _ (X _ _ ho)) (wpAny_pure q))
  · cases hc
 ne:=fun h tp dd its n sl X htp=>by
  have hc:=Z.cls
  refine Bool.eq_false_iff.mpr fun q=> ?_
  have e:C=tp:=Value.ref.inj (beq_iff_eq.mp q)
  subst e
  unfold PySem.W.clsIn at hc
  split at hc
  · rename_i ho
    cases (X _ _ ho).symm.trans htp
  · cases hc
 ca:=fun {prog w A E Q s} X ⟨o,e,c⟩ k=>by
  obtain ⟨h,g,d,t,os⟩:=s
  exact qN Z X e c k
noncomputable def clsV:V→Value
 | .ty n=> .type n
 | .ref a=> .ref a
 |_=> .none
def pK:V→Bool
 | .ty _=>true
 | .ref _=>true
 |_=>false
theorem pR {x:V} {u:Value} (r:RelV x u) (h:pK x=true):u=clsV x:=by
 cases x with
 |ty n=>exact r
 |ref a=>exact r
 |_=>cases h
theorem nB:∀ {xs:List V} {us:List Value},Vals xs us→xs.all pK=true→us=xs.map clsV
 |_,_, .nil,_=>rfl
 |_,_, .cons r t,h=>by
  rw [List.all_cons,zS] at h
  rw [pR r h.1,nB t h.2,zo]
inductive TyX (K:PySem.W.Frag) (H:Hp):V→Value→Prop where
 |of {x:V} {t:Value} (h:TyOf K H x t):TyX K H x t
 |exc {a C:Addr} (e:H a=some (Cau C a)) (Z:XIs K C):TyX K H (.ref a) (.ref C)
section
variable {X:Cx}
theorem TyX.kit {pins:List (Addr×Obj)} {σ:St} {H:Hp} {s:Shared} {x:V} {u t:Value} (I:Inv X pins σ H s) (rx:RelV x u) (ty:TyX X.K H x t):∃Hh,PySem.W.KitX X.K u t Hh∧Hh s.heap∧u≠ .builtin "__main__.__loader__#opaque":=by
 cases ty with
 |of ty=>
  cases ty with
  |non=>cases (show u=Value.none from rx);exact ⟨_,PySem.W.kitx_none,True.intro,fun z=>nomatch z⟩
  |bl y=>cases (show u=Value.bool y from rx);exact ⟨_,PySem.W.kitx_bool,True.intro,fun z=>nomatch z⟩
  |int i=>obtain ⟨t,q⟩:=(show∃t,u=Value.int i t from rx);cases q;exact ⟨_,PySem.W.kitx_int,True.intro,fun z=>nomatch z⟩
  |str y=>obtain ⟨t,q⟩:=(show∃t,u=Value.str y t from rx);cases q;exact ⟨_,PySem.W.kitx_str,True.intro,fun z=>nomatch z⟩
  |flt y=>obtain ⟨t,q⟩:=(show∃t,u=Value.float y t from rx);cases q;exact ⟨_,PySem.W.kitx_float,True.intro,fun z=>nomatch z⟩
  | @lst a xs ea=>
   cases (show u=Value.ref a from rx)
   obtain ⟨_,_,n,_,h1⟩:=(show ObjOk X.prog X.w H s.heap a (.lst xs) from I.hok a _ ea)
   exact ⟨_,PySem.W.kitx_list,⟨_,h1,rfl⟩,fun z=>nomatch z⟩
  | @frz a ob xs ea=>
   cases (show u=Value.ref a from rx)
   obtain ⟨_,_,_,n,_,h1⟩:=(show ObjOk X.prog X.w H s.heap a (.frz ob (.lst xs)) from I.hok a _ ea)
   exact ⟨_,PySem.W.kitx_list,⟨_,h1,rfl⟩,fun z=>nomatch z⟩
  | @tup a xs ea=>
   cases (show u=Value.ref a from rx)
   obtain ⟨_,_,_,o,h1,h2,_⟩:=(show ObjOk X.prog X.w H s.heap a (.tup xs) from I.hok a _ ea)
   exact ⟨_,PySem.W.kitx_tuple,⟨o,h1,h2⟩,fun z=>nomatch z⟩
  | @dK a kvs ea=>
   cases (show u=Value.ref a from rx)
   obtain ⟨_,_,vs,_,o,es,ep,h1,h2,_⟩:=(show ObjOk X.prog X.w H s.heap a (.dK kvs) from I.hok a _ ea)
   exact ⟨_,PySem.W.kitx_dict,⟨o,h1,h2.1⟩,fun z=>nomatch z⟩
  | @dT a kvs ea=>
   cases (show u=Value.ref a from rx)
   obtain ⟨_,_,xs,_,o,es,ep,h1,h2,_⟩:=(show ObjOk X.prog X.w H s.heap a (.dT kvs) from I.hok a _ ea)
   exact ⟨_,PySem.W.kitx_dict,⟨o,h1,h2.1⟩,fun z=>nomatch z⟩
  | @ins a C dx fs ea cl ha hn htk hm=>
   cases (show u=Value.ref a from rx)
   obtain ⟨mA,O,_⟩:=vL I.hok ea
   obtain ⟨od,J,_⟩:=O.look
   exact ⟨_,PySem.W.kitx_own (cl.get _) cl.hd ha hn htk hm,J,fun z=>nomatch z⟩
 | @exc a C e Z=>
  cases (show u=Value.ref a from rx)
  obtain ⟨h1,_⟩:=(show ObjOk X.prog X.w H s.heap a (Cau C a) from I.hok a _ e)
  exact ⟨_,u6 Z,h1,fun z=>nomatch z⟩
def rIsi (K:PySem.W.Frag):List V→Hp→VK→Prop:=fun xs H Q=>∃x c t b,xs= [x,c]∧TyX K H x t∧
 ((pK c=true∧PySem.W.kitOne K t (clsV c)=some b)∨(∃p ys,c= .ref p∧H p=some (.tup ys)∧ys.all pK=true∧PySem.W.kitAny K t (ys.map clsV)=some b))∧Q (.bl b) H
theorem aX:dJ X (.builtin "isinstance") (rIsi X.K):=by
 intro pins s σ H xs us Q I r h
 obtain ⟨x,c,t,b,e,ty,h,q⟩:=h
 subst e
 cases r with
 | @cons _ u _ _ rx r=>
  cases r with
  | @cons _ v _ _ rc r=>
   cases r
   obtain ⟨Hh,Z,hp,hne⟩:=ty.kit I rx
   rcases h with ⟨hc,hk⟩|⟨p,ys,e,hH,hall,hk⟩
   · cases pR rc hc
     exact PySem.W.kia_one Z I.kIn hp hk hne fun tk=>⟨.bl b,H,I.tok tk,rfl,q⟩
   · subst e
     cases (show v=Value.ref p from rc)
     obtain ⟨_,its,rv,⟨oc,od,oda,osl⟩,h1,h2,n,h3⟩:=(show ObjOk X.prog X.w H s.heap p (.tup ys) from I.hok p _ hH)
     dsimp only at h2 h3
     subst h2 h3
     cases nB rv hall
     exact PySem.W.kia_tup Z I.kIn hp h1 hk hne fun tk=>⟨.bl b,H,I.tok tk,rfl,q⟩
end
open PySem PySem.Spec PyProof.Rows
abbrev TSX:=Ends→XK→St→Hp→Prop
def PSX (X:Cx) (CX:CXT) (body:List Stmt) (t:TSX):Prop:=
 ∀(pins:List (Addr×Obj)) (s:Shared) (σ:St) (H:Hp) (D:Ends) (E:XK),Inv X pins σ H s→t D E σ H→
  wpAny (model X.prog X.w) X.A (execs body X.env) (SP X pins D) (fun e s'=>∃H0 s0,Inv X pins σ H0 s0∧CX X.stack H0 s0 E e s') s
section
variable {X:Cx} {CX:CXT} {k:Nat} {f:Addr} {fd:FuncData} {ps:List Str} {sp:Sp} {x:Str} {p pos epos:Pos} {e:Expr} {es:List Expr} {t:TA}
end
abbrev Cx.caught (X:Cx) (a:Addr):Cx:= {X with A:=X.A.mark (some (.ref a)),calm:=false,xe:=fun _ _=>False}
section
variable {X:Cx} {pins:List (Addr×Obj)} {σ:St} {H:Hp} {s:Shared} {a:Addr}
theorem Inv.caught (I:Inv X pins σ H s) (a:Addr):Inv (X.caught a) pins σ H s:=
 ⟨⟨I.ok.mod,I.ok.kind,I.ok.glob,I.ok.blt,I.ok.above,I.ok.inj,I.ok.has,I.ok.cab,(fun z=>by cases z),I.ok.frames,I.ok.stk,I.ok.exf,I.ok.bs,I.ok.bsz,I.ok.noex,I.ok.exfs,I.ok.funs,I.ok.frf⟩,I.os,I.bare,I.base,I.loc,I.cell,I.free,I.freeC,I.pin,I.hok,I.len⟩
theorem Inv.uncaught (I:Inv (X.caught a) pins σ H s) (ok:X.Ok):Inv X pins σ H s:=⟨ok,I.os,I.bare,I.base,I.loc,I.cell,I.free,I.freeC,I.pin,I.hok,I.len⟩
theorem Inv.flown {H0 H':Hp} {s0 s1:Shared} {B h6:Heap} {C a:Addr} {a0:Value} (I0:Inv X pins σ H0 s0) (os:s1.os=s0.os) (bare:AllBare s1.gens) (nA:s0.heap.get? a=none) (nH:H' a=none) (okB:HOk X.prog X.w H' B)
 (kB:∀b o,s0.heap.get? b=some o→Idl (H0 b)→b∉frs X.stack→B.get? b=some o) (slB:∀b o,s0.heap.get? b=some o→H0 b=none→b∈frs X.stack→∃sl,s1.heap.get? b=some {o with slots:=sl})
 (frB:∀b o,s0.heap.get? b=some o→H0 b=none→H' b=none) (thB:∀b o,s0.heap.get? b=some o→b∉frs X.stack→∃o',B.get? b=some o')
 (tu:∀b xs,H0 b=some (.tup xs)→H' b=some (.tup xs)) (fz:∀b o u,H0 b=some (.frz o u)→H' b=some (.frz o u)) (tb:∀b ps,H0 b=some (.tbl ps)→∃more,H' b=some (.tbl (ps++more)))
 (fl:Heap.FlyingW B X.stack a (.ref C) a0 s1.heap) (fl6:Heap.FlyingW B X.stack a (.ref C) a0 h6) (sm:s1.heap.UpToSlots h6):Inv X pins σ (upd H' a (Cau C a)) {s1 with heap:=h6}:=by
 have ne:∀b o,s0.heap.get? b=some o→b≠a:=fun b o q z=>by
  rw [z,nA] at q
  cases q
 have ne':∀b o,H' b=some o→b≠a:=fun b o q z=>by
  rw [z,nH] at q
  cases q
 refine I0.call' (s':= {s1 with heap:=h6}) (ch:= []) os ⟨fun b o q n hb _=> ?_,fun b o q n hb _=> ?_,fun b o q n _=> ?_,fun b o q _=> ?_,fun b xs q=> ?_,fun b o u q=> ?_,fun b ps q=> ?_⟩ ?_ bare (fun b z=>absurd z (by simp))
 · exact fl6.1 b o (kB b o q n hb)
 · obtain ⟨sl,e1⟩:=slB b o q n hb
   obtain ⟨_,o1,e2,d2⟩:=fl.2.2.1.mem hb
   rw [e1] at e2
   cases e2
   obtain ⟨sl',e3⟩:=sm b _ e1 d2
   exact ⟨sl',e3⟩
 · rw [aG (ne b o q)]
   exact frB b o q n
 · by_cases hb:b∈frs X.stack
   · obtain ⟨_,o1,e2,_⟩:=fl6.2.2.1.mem hb
     exact ⟨o1,e2⟩
   · obtain ⟨o',e1⟩:=thB b o q hb
     exact ⟨o',fl6.1 b o' e1⟩
 · have:=tu b xs q
   rw [aG (ne' _ _ this)]
   exact this
 · have:=fz b o u q
   rw [aG (ne' _ _ this)]
   exact this
 · obtain ⟨more,this⟩:=tb b ps q
   refine ⟨more,?_⟩
   rw [aG (ne' _ _ this)]
   exact this
 · have ok6:HOk X.prog X.w H' h6:=okB.kept fl6.1
   intro b o q
   by_cases hb:b=a
   · subst hb
     rw [aa] at q
     cases q
     obtain ⟨ob,e1,c1⟩:=fl6.there
     exact xY e1 c1
   · rw [aG hb] at q
     exact (ok6 b o q).stay (fun _ _ _ r=>r) (fun c r=>by rw [aG (ne' _ _ r)];exact r) fun c xs r=>by rw [aG (ne' _ _ r)];exact r
end
section
variable {X:Cx} {body suite:List Stmt} {b0:Stmt} {tb:TSX} {ts:TS} {i:Nat} {n cx:Str} {np hpos pos:Pos} {W:Addr}
end
open PySem PySem.Spec PyProof.Rows
section
variable {X:Cx}
def Big (i:Int):Prop:=i.natAbs < 2^8000
theorem cM:OpR X (binaryOp .Mult) (rI (fun i j=>Big i∧Big j) fun i j=> .int (i*j)):=opI fun _ _ _ _ _ _ _ hc q=>
 PyProof.Rows.mul_int q (IntMulOk.of_le (m:=8000) (n:=8000) (intBits_le_iff.mpr hc.1) (intBits_le_iff.mpr hc.2) (by decide))
theorem uD {i j:Int} (h:Big j):Builtin.divisionGoesByPylong i j=false:=by
 refine PyProof.noPylong_of_log2 ?_
 by_cases z:j.natAbs=0
 · rw [z];decide
 · exact Nat.lt_trans ((Nat.log2_lt z).mpr h) (by decide)
theorem cu:OpR X (binaryOp .FloorDiv) (rI (fun _ j=>0 < j∧Big j) fun i j=> .int (i / j)):=opI fun i j _ _ _ _ _ hc q=>by
 have h1:(0:Int) < j:=hc.1
 exact floordiv_int (by omega) (by rw [A6 i (by omega)];exact q) (.inl (uD hc.2))
theorem mv:OpR X (binaryOp .FloorDiv) (rI (fun _ j=>j≠0∧Big j) fun i j=> .int (i.fdiv j)):=opI fun _ _ _ _ _ _ _ hc q=>floordiv_int hc.1 q (.inl (uD hc.2))
end
theorem Fun.okX {P:Program} {w:World} {K:PySem.W.Frag} {mg:Str→Option Value} {base:Heap} {CX:CXT} {x qual:Str} {st:Stmt} {f:Addr} {fd:FuncData} {N ps:List Str} {k:Nat} {sp:Sp} (F:Fun K x qual st f fd) (S:aD N ps (ah st))
 (len:∀vs H Q E,sp vs H Q E→vs.length=ps.length)
 (hbody:∀(cdv:Value) (A:Around) (outer:List Env) (s:Shared) (H:Hp) (vs:List V) (Q:VK) (E:XK),Room k (A.deeper (envOfC qual (ah st) s.heap.objs.size f cdv))→sp vs H Q E→
  ∃t,PSs (cxOf CX P w K mg base N qual (ah st) f cdv A outer s H E) (ay st) t∧t {nx:=fun _ H'=>Q .non H',rt:=Q} (eQ N vs) H):FnOk P w K mg base CX (k+1) f fd ps sp:=by
 obtain ⟨oc,od,kV,doc,pm,an,cdv,ct,osl,rfl,lk,hcd⟩:=F.ex
 exact wH lk hcd S len fun A outer s H vs Q E hr hsp=>hbody cdv A outer s H vs Q E hr hsp
theorem i4 (K:PySem.W.Frag):PySem.W.kitOne K (.type "int") (.type "bool")=some false:=by kernel_rfl
theorem ao:bootBuiltins "isinstance"=some (.builtin "isinstance"):=by decide +kernel
theorem uC:bootBuiltins "abs"=some (.builtin "abs"):=by decide +kernel
theorem w6:bootBuiltins "ValueError"=some (.type "ValueError"):=by decide +kernel
open PySem PySem.Spec PyProof.Rows
section
variable {X:Cx}
theorem xr (hu:X.A.units+1 < cLine):OpR X (compareOp .Eq) (fun x y H Q=>∃(p q:Addr) (a b c d:Int),x= .ref p∧y= .ref q∧SqT X.K H p [.int a, .int b]∧SqT X.K H q [.int c, .int d]∧Q (.bl (decide (a=c∧b=d))) H):=by
 intro pins s σ H x y v u Q I rx ry h
 obtain ⟨p,q,a,b,c,d,e1,e2,hp,hq,k⟩:=h
 subst e1 e2
 cases (show v=Value.ref p from rx)
 cases (show u=Value.ref q from ry)
 obtain ⟨its,r1,t1,_⟩:=I.tuple hp
 obtain ⟨its2,r2,t2,_⟩:=I.tuple hq
 obtain ⟨u1,u2,rfl,⟨w1,rfl⟩,⟨w2,rfl⟩⟩:=Vals.two r1
 obtain ⟨u3,u4,rfl,⟨w3,rfl⟩,⟨w4,rfl⟩⟩:=Vals.two r2
 refine PySem.SeqAt.eq_tupleAt (e:=fun j=>if j=0 then a==c else b==d) (show s.heap.IsTuple p _ from t1) (show s.heap.IsTuple q _ from t2) (by omega) (fun j h1 h2=> ?_) ?_
 · match j,h1,h2 with
   |0,_,_=>exact PySem.SeqAt.EqAt.int_int a w1 c w3
   |1,_,_=>exact PySem.SeqAt.EqAt.int_int b w2 d w4
   |j+2,h1,_=>
    have:j+2 < 2:=h1
    omega
 · refine ⟨.bl (decide (a=c∧b=d)),H,I,?_,k⟩
   show Value.bool (((a==c)&& ((b==d)&&true))&&true)=Value.bool (decide (a=c∧b=d))
   congr 1
   rw [Bool.and_true,Bool.and_true,Ak]
   simp
end
section
variable {X:Cx} {CX:CXT} {k:Nat} {f:Addr} {fd:FuncData} {ps:List Str} {sp:Sp} {x:Str} {p pos rpos:Pos} {e:Expr} {es:List Expr} {t:TA}
end
section
variable {X:Cx} {body suite:List Stmt} {b0:Stmt} {tb:TSX} {ts:TS} {cx:Str} {np hpos pos:Pos} {W:Addr}
end
theorem eH (K:PySem.W.Frag):PySem.W.kitOne K (.type "bool") (.type "bool")=some true:=by kernel_rfl
end L2
namespace Tre
open PySem PySem.Spec PyProof.Rows L2
inductive Tr where
 |non
 |bl (b:Bool)
 |int (i:Int)
 |str (x:Str)
 |tup (ts:List Tr)
 |ls
mutual
noncomputable def Tr.depth:Tr→Nat
 | .tup ts=>Trs.depth ts+1
 |_=>0
noncomputable def Trs.depth:List Tr→Nat
 | []=>0
 |t::ts=>max (Tr.depth t) (Trs.depth ts)
end
mutual
def Tr.pure:Tr→Prop
 | .tup ts=>Trs.pure ts
 | .ls=>False
 |_=>True
def Trs.pure:List Tr→Prop
 | []=>True
 |t::ts=>Tr.pure t∧Trs.pure ts
end
mutual
def TrAt (H:Hp):V→Tr→Prop
 |v, .non=>v= .non
 |v, .bl b=>v= .bl b
 |v, .int i=>v= .int i
 |v, .str x=>v= .str x
 |v, .tup ts=>∃r vs,v= .ref r∧H r=some (.tup vs)∧TrsAt H vs ts
 |v, .ls=>∃r xs,v= .ref r∧H r=some (.lst xs)
def TrsAt (H:Hp):List V→List Tr→Prop
 |vs,[]=>vs= []
 |vs,t::ts=>∃v r,vs=v::r∧TrAt H v t∧TrsAt H r ts
end
structure Kd (H H':Hp):Prop where
 tup:∀a xs,H a=some (.tup xs)→H' a=some (.tup xs)
 lst:∀a xs,H a=some (.lst xs)→∃ys,H' a=some (.lst ys)
theorem Kd.trans {H H1 H2:Hp} (a:Kd H H1) (b:Kd H1 H2):Kd H H2:=⟨fun x o e=>b.tup x o (a.tup x o e),fun x o e=>by
 obtain ⟨ys,e1⟩:=a.lst x o e
 exact b.lst x ys e1⟩
theorem Kd.of_same {H H':Hp} (s:Same H H'):Kd H H':=⟨fun a xs e=>s a _ e,fun a xs e=>⟨xs,s a _ e⟩⟩
theorem Kd.upd {H:Hp} {p:Addr} {xs ys:List V} (h:H p=some (.lst xs)):Kd H (upd H p (.lst ys)):=by
 refine ⟨fun a zs e=> ?_,fun a zs e=> ?_⟩
 · rw [aG]
   · exact e
   · intro z
     rw [z,h] at e
     cases e
 · by_cases z:a=p
   · subst z
     exact ⟨ys,aa⟩
   · exact ⟨zs,(aG z).trans e⟩
mutual
theorem TrAt.mono {H H':Hp} (k:Kd H H'):∀ {v:V} {t:Tr},TrAt H v t→TrAt H' v t
 |v, .non,h=>by unfold TrAt at h ⊢;exact h
 |v, .bl b,h=>by unfold TrAt at h ⊢;exact h
 |v, .int i,h=>by unfold TrAt at h ⊢;exact h
 |v, .str x,h=>by unfold TrAt at h ⊢;exact h
 |v, .ls,h=>by
  unfold TrAt at h ⊢
  obtain ⟨r,xs,e,h⟩:=h
  obtain ⟨ys,h'⟩:=k.lst r xs h
  exact ⟨r,ys,e,h'⟩
 |v, .tup ts,h=>by
  unfold TrAt at h ⊢
  obtain ⟨r,vs,e,h1,h2⟩:=h
  exact ⟨r,vs,e,k.tup _ _ h1,TrsAt.mono k h2⟩
theorem TrsAt.mono {H H':Hp} (k:Kd H H'):∀ {vs:List V} {ts:List Tr},TrsAt H vs ts→TrsAt H' vs ts
 |vs,[],h=>by unfold TrsAt at h ⊢;exact h
 |vs,t::ts,h=>by
  unfold TrsAt at h ⊢
  obtain ⟨v,r,e,h1,h2⟩:=h
  exact ⟨v,r,e,TrAt.mono k h1,TrsAt.mono k h2⟩
end
theorem TrsAt.nil {H:Hp}:TrsAt H [] []:=by unfold TrsAt;rfl
theorem TrsAt.cons {H:Hp} {v:V} {t:Tr} {vs:List V} {ts:List Tr} (h:TrAt H v t) (r:TrsAt H vs ts):TrsAt H (v::vs) (t::ts):=by
 unfold TrsAt
 exact ⟨v,vs,rfl,h,r⟩
theorem TrsAt.inv {H:Hp} {t:Tr} {vs:List V} {ts:List Tr} (h:TrsAt H vs (t::ts)):∃v r,vs=v::r∧TrAt H v t∧TrsAt H r ts:=by
 unfold TrsAt at h
 exact h
theorem TrsAt.len {H:Hp}:∀ {vs:List V} {ts:List Tr},TrsAt H vs ts→vs.length=ts.length
 |vs,[],h=>by
  unfold TrsAt at h
  rw [h]
  rfl
 |vs,t::ts,h=>by
  obtain ⟨v,r,e,_,h2⟩:=h.inv
  rw [e,zw,zw,h2.len]
theorem TrsAt.app {H:Hp} {ws:List V} {us:List Tr} (b:TrsAt H ws us):∀ {vs:List V} {ts:List Tr},TrsAt H vs ts→TrsAt H (vs++ws) (ts++us)
 |vs,[],h=>by
  unfold TrsAt at h
  subst h
  exact b
 |vs,t::ts,h=>by
  obtain ⟨v,r,e,h1,h2⟩:=h.inv
  subst e
  exact .cons h1 (TrsAt.app b h2)
theorem TrsAt.get {H:Hp}:∀ {vs:List V} {ts:List Tr} {i:Nat} {t:Tr},TrsAt H vs ts→ts[i]?=some t→∃v,vs[i]?=some v∧TrAt H v t
 |vs,[],i,t,_,e=>by simp at e
 |vs,a::ts,0,t,h,e=>by
  obtain ⟨v,r,rfl,h1,h2⟩:=h.inv
  simp at e
  subst e
  exact ⟨v,rfl,h1⟩
 |vs,a::ts,i+1,t,h,e=>by
  obtain ⟨v,r,rfl,h1,h2⟩:=h.inv
  obtain ⟨u,e1,e2⟩:=h2.get (i:=i) (by simpa using e)
  exact ⟨u,by simpa using e1,e2⟩
theorem TrsAt.get' {H:Hp} {vs:List V} {ts:List Tr} {i:Nat} {v:V} (h:TrsAt H vs ts) (e:vs[i]?=some v):∃t,ts[i]?=some t∧TrAt H v t:=by
 have hl:=h.len
 have hi:i < vs.length:=(zd.mp e).1
 obtain ⟨u,e1,e2⟩:=h.get (i:=i) (t:=ts[i]'(by omega)) (yX _)
 rw [e] at e1
 cases e1
 exact ⟨_,yX _,e2⟩
mutual
theorem TrAt.det {H:Hp}:∀ {v:V} {t u:Tr},TrAt H v t→TrAt H v u→t=u
 |v, .non,u,h1,h2=>by
  unfold TrAt at h1
  subst h1
  cases u<;>unfold TrAt at h2<;>first|rfl|(cases h2;done)|(obtain ⟨_,_,e,_⟩:=h2;cases e)
 |v, .bl b,u,h1,h2=>by
  unfold TrAt at h1
  subst h1
  cases u<;>unfold TrAt at h2<;>first|(cases h2;rfl)|(cases h2;done)|(obtain ⟨_,_,e,_⟩:=h2;cases e)
 |v, .int b,u,h1,h2=>by
  unfold TrAt at h1
  subst h1
  cases u<;>unfold TrAt at h2<;>first|(cases h2;rfl)|(cases h2;done)|(obtain ⟨_,_,e,_⟩:=h2;cases e)
 |v, .str b,u,h1,h2=>by
  unfold TrAt at h1
  subst h1
  cases u<;>unfold TrAt at h2<;>first|(cases h2;rfl)|(cases h2;done)|(obtain ⟨_,_,e,_⟩:=h2;cases e)
 |v, .ls,u,h1,h2=>by
  unfold TrAt at h1
  obtain ⟨r,xs,rfl,h1⟩:=h1
  cases u<;>unfold TrAt at h2<;>first|rfl|(cases h2;done)|(obtain ⟨_,_,e,h2,_⟩:=h2;cases e;rw [h1] at h2;cases h2)
 |v, .tup ts, .tup us,h1,h2=>by
  unfold TrAt at h1 h2
  obtain ⟨r,vs,rfl,h1,h3⟩:=h1
  obtain ⟨r',vs',e,h2,h4⟩:=h2
  cases e
  rw [h1] at h2
  cases h2
  rw [TrsAt.det h3 h4]
 |v, .tup ts, .non,h1,h2=>by unfold TrAt at h1 h2;obtain ⟨_,_,e,_⟩:=h1;rw [h2] at e;cases e
 |v, .tup ts, .bl _,h1,h2=>by unfold TrAt at h1 h2;obtain ⟨_,_,e,_⟩:=h1;rw [h2] at e;cases e
 |v, .tup ts, .int _,h1,h2=>by unfold TrAt at h1 h2;obtain ⟨_,_,e,_⟩:=h1;rw [h2] at e;cases e
 |v, .tup ts, .str _,h1,h2=>by unfold TrAt at h1 h2;obtain ⟨_,_,e,_⟩:=h1;rw [h2] at e;cases e
 |v, .tup ts, .ls,h1,h2=>by
  unfold TrAt at h1 h2
  obtain ⟨r,vs,rfl,h1,_⟩:=h1
  obtain ⟨r',xs,e,h2⟩:=h2
  cases e
  rw [h1] at h2
  cases h2
theorem TrsAt.det {H:Hp}:∀ {vs:List V} {ts us:List Tr},TrsAt H vs ts→TrsAt H vs us→ts=us
 |vs,[],[],_,_=>rfl
 |vs,[],u::us,h1,h2=>by
  have a:=h1.len
  have b:=h2.len
  rw [a] at b
  simp at b
 |vs,t::ts,[],h1,h2=>by
  have a:=h1.len
  have b:=h2.len
  rw [a] at b
  simp at b
 |vs,t::ts,u::us,h1,h2=>by
  obtain ⟨v,r,rfl,h3,h4⟩:=h1.inv
  obtain ⟨v',r',e,h5,h6⟩:=h2.inv
  cases e
  rw [TrAt.det h3 h5,TrsAt.det h4 h6]
end
mutual
noncomputable def eqT:Tr→Tr→Bool
 | .non, .non=>true
 | .bl a, .bl b=>a==b
 | .bl a, .int i=>(if a then 1 else 0)==i
 | .int i, .bl b=>i==(if b then 1 else 0)
 | .int i, .int j=>i==j
 | .str x, .str y=>x==y
 | .tup ts, .tup us=>eqTs ts us
 | .ls, .ls=>true
 |_,_=>false
noncomputable def eqTs:List Tr→List Tr→Bool
 | [],[]=>true
 |t::ts,u::us=>eqT t u&&eqTs ts us
 |_,_=>false
end
mutual
theorem jq:∀t:Tr,eqT t t=true
 | .non=>by simp [eqT]
 | .bl _=>by simp [eqT]
 | .int _=>by simp [eqT]
 | .str _=>by simp [eqT]
 | .ls=>by simp [eqT]
 | .tup ts=>by simp only [eqT];exact eqTs_refl ts
theorem eqTs_refl:∀ts:List Tr,eqTs ts ts=true
 | []=>by simp [eqTs]
 |t::ts=>by simp [eqTs,jq t,eqTs_refl ts]
end
noncomputable def eqJ (ts us:List Tr) (j:Nat):Bool:=match ts[j]?,us[j]? with
 |some t,some u=>eqT t u
 |_,_=>true
theorem uj {ts us:List Tr} {j:Nat} {t u:Tr} (h1:ts[j]?=some t) (h2:us[j]?=some u):eqJ ts us j=eqT t u:=by
 unfold eqJ
 rw [h1,h2]
theorem i7:∀(ts us:List Tr),eqTs ts us=((List.range (min ts.length us.length)).all (eqJ ts us)&&ts.length==us.length)
 | [],[]=>by simp [eqTs]
 | [],u::us=>by simp [eqTs]
 |t::ts,[]=>by simp [eqTs]
 |t::ts,u::us=>by
  simp only [eqTs,zw]
  rw [i7 ts us,show min (ts.length+1) (us.length+1)=min ts.length us.length+1 by omega,List.range_succ_eq_map,List.all_cons,List.all_map]
  have e:(eqJ (t::ts) (u::us)) ∘ Nat.succ=eqJ ts us:=by
   funext j
   simp [eqJ]
  rw [e]
  simp [eqJ,Bool.and_assoc]
open PySem PySem.Spec PyProof.Rows L2
section
variable {X:Cx} {pins:List (Addr×Obj)} {σ:L2.St} {H:Hp} {s:Shared} {A:Around}
theorem qh {a b:Addr} {xs ys:List V} (I:Inv X pins σ H s) (ha:H a=some (.tup xs)) (hb:H b=some (.tup ys)) (hu:A.units < cLine) (e:Nat→Bool) (hne:a≠b)
 (he:∀j x y u v,xs[j]?=some x→ys[j]?=some y→RelV x u→RelV y v→SeqAt.EqAt A.in1 s u v (e j)):
 SeqAt.EqAt A s (.ref a) (.ref b) ((List.range (min xs.length ys.length)).all e&&xs.length==ys.length):=by
 obtain ⟨us,r1,p1,_⟩:=I.tuple (SqT.of ha)
 obtain ⟨ws,r2,p2,_⟩:=I.tuple (SqT.of hb)
 have l1:=r1.length
 have l2:=r2.length
 have:=SeqAt.RcAt.tuples (A:=A) (e:=e) (show s.heap.IsTuple a us.toArray from p1) (show s.heap.IsTuple b ws.toArray from p2) hu fun j h1 h2=>by
  have h1':j < us.length:=by simpa using h1
  have h2':j < ws.length:=by simpa using h2
  obtain ⟨u,e1,q1⟩:=r1.get (i:=j) (x:=xs[j]'(by omega)) (yX _)
  obtain ⟨v,e2,q2⟩:=r2.get (i:=j) (x:=ys[j]'(by omega)) (yX _)
  have z1:us.toArray[j]=u:=by rw [List.getElem_toArray];rw [yX h1'] at e1;exact zu e1
  have z2:ws.toArray[j]=v:=by rw [List.getElem_toArray];rw [yX h2'] at e2;exact zu e2
  rw [z1,z2]
  exact he j _ _ u v (yX _) (yX _) q1 q2
 rw [z5,z5,←l1,←l2] at this
 exact SeqAt.EqAt.of_refs hne this
theorem cm:∀ {ts:List Tr} {t:Tr},t∈ts→t.depth≤Trs.depth ts
 |a::ts,t,h=>by
  unfold Trs.depth
  rcases zc.mp h with rfl|h
  · omega
  · have:=cm h
    omega
theorem eR:∀ {ts:List Tr} {t:Tr},Trs.pure ts→t∈ts→t.pure
 |a::ts,t,p,h=>by
  unfold Trs.pure at p
  rcases zc.mp h with rfl|h
  · exact p.1
  · exact eR p.2 h
theorem eM {r:Addr} {vs:List V} (I:Inv X pins σ H s) (h:H r=some (.tup vs)):∃its:Array Value,s.heap.IsTuple r its:=by
 obtain ⟨us,_,p,_⟩:=I.tuple (SqT.of h)
 exact ⟨_,p⟩
theorem eN {r:Addr} {vs:List V} (I:Inv X pins σ H s) (h:H r=some (.lst vs)):∃its:Array Value,s.heap.IsList r its:=by
 obtain ⟨us,_,p,_⟩:=I.list (SqL.of h)
 exact ⟨_,p.isList⟩
theorem p6 (I:Inv X pins σ H s) {A:Around} {t u:Tr} {v w:V} {a b:Value} (hd:∀ts,t≠ .tup ts) (hp:t.pure∨u.pure) (h1:TrAt H v t) (h2:TrAt H w u) (r1:RelV v a) (r2:RelV w b) (hu0:A.units < cLine):SeqAt.EqAt A s a b (eqT t u):=by
 cases t with
 |tup ts=>exact (hd ts rfl).elim
 |non=>
  unfold TrAt at h1
  subst h1
  cases (show a=Value.none from r1)
  cases u with
  |non=>unfold TrAt at h2;subst h2;cases (show b=Value.none from r2);simp only [eqT];exact SeqAt.EqAt.same _
  |bl c=>unfold TrAt at h2;subst h2;cases (show b=Value.bool c from r2);simp only [eqT];exact SeqAt.EqAt.none_bool c
  |int c=>unfold TrAt at h2;subst h2;obtain ⟨t',rfl⟩:=r2;simp only [eqT];exact SeqAt.EqAt.none_int c t'
  |str c=>unfold TrAt at h2;subst h2;obtain ⟨t',rfl⟩:=r2;simp only [eqT];exact SeqAt.EqAt.none_str c t'
  |tup us=>unfold TrAt at h2;obtain ⟨r,vs,rfl,g1,_⟩:=h2;cases r2;obtain ⟨its,p⟩:=eM I g1;simp only [eqT];exact SeqAt.EqAt.none_tuple p hu0
  |ls=>unfold TrAt at h2;obtain ⟨r,vs,rfl,g1⟩:=h2;cases r2;obtain ⟨its,p⟩:=eN I g1;simp only [eqT];exact SeqAt.EqAt.none_list p hu0
 |bl d=>
  unfold TrAt at h1
  subst h1
  cases (show a=Value.bool d from r1)
  cases u with
  |non=>unfold TrAt at h2;subst h2;cases (show b=Value.none from r2);simp only [eqT];exact SeqAt.EqAt.bool_none d
  |bl c=>unfold TrAt at h2;subst h2;cases (show b=Value.bool c from r2);simp only [eqT];exact SeqAt.EqAt.bool_bool d c
  |int c=>unfold TrAt at h2;subst h2;obtain ⟨t',rfl⟩:=r2;simp only [eqT];exact SeqAt.EqAt.bool_int d c t'
  |str c=>unfold TrAt at h2;subst h2;obtain ⟨t',rfl⟩:=r2;simp only [eqT];exact SeqAt.EqAt.bool_str d c t'
  |tup us=>unfold TrAt at h2;obtain ⟨r,vs,rfl,g1,_⟩:=h2;cases r2;obtain ⟨its,p⟩:=eM I g1;simp only [eqT];exact SeqAt.EqAt.bool_tuple d p hu0
  |ls=>unfold TrAt at h2;obtain ⟨r,vs,rfl,g1⟩:=h2;cases r2;obtain ⟨its,p⟩:=eN I g1;simp only [eqT];exact SeqAt.EqAt.bool_list d p hu0
 |int d=>
  unfold TrAt at h1
  subst h1
  obtain ⟨t0,rfl⟩:=r1
  cases u with
  |non=>unfold TrAt at h2;subst h2;cases (show b=Value.none from r2);simp only [eqT];exact SeqAt.EqAt.int_none d t0
  |bl c=>unfold TrAt at h2;subst h2;cases (show b=Value.bool c from r2);simp only [eqT];exact SeqAt.EqAt.int_bool d t0 c
  |int c=>unfold TrAt at h2;subst h2;obtain ⟨t',rfl⟩:=r2;simp only [eqT];exact SeqAt.EqAt.int_int d t0 c t'
  |str c=>unfold TrAt at h2;subst h2;obtain ⟨t',rfl⟩:=r2;simp only [eqT];exact SeqAt.EqAt.int_str d t0 c t'
  |tup us=>unfold TrAt at h2;obtain ⟨r,vs,rfl,g1,_⟩:=h2;cases r2;obtain ⟨its,p⟩:=eM I g1;simp only [eqT];exact SeqAt.EqAt.int_tuple d t0 p hu0
  |ls=>unfold TrAt at h2;obtain ⟨r,vs,rfl,g1⟩:=h2;cases r2;obtain ⟨its,p⟩:=eN I g1;simp only [eqT];exact SeqAt.EqAt.int_list d t0 p hu0
 |str d=>
  unfold TrAt at h1
  subst h1
  obtain ⟨t0,rfl⟩:=r1
  cases u with
  |non=>unfold TrAt at h2;subst h2;cases (show b=Value.none from r2);simp only [eqT];exact SeqAt.EqAt.str_none d t0
  |bl c=>unfold TrAt at h2;subst h2;cases (show b=Value.bool c from r2);simp only [eqT];exact SeqAt.EqAt.str_bool d t0 c
  |int c=>unfold TrAt at h2;subst h2;obtain ⟨t',rfl⟩:=r2;simp only [eqT];exact SeqAt.EqAt.str_int d t0 c t'
  |str c=>unfold TrAt at h2;subst h2;obtain ⟨t',rfl⟩:=r2;simp only [eqT];exact SeqAt.EqAt.str_str d t0 c t'
  |tup us=>unfold TrAt at h2;obtain ⟨r,vs,rfl,g1,_⟩:=h2;cases r2;obtain ⟨its,p⟩:=eM I g1;simp only [eqT];exact SeqAt.EqAt.str_tuple d t0 p hu0
  |ls=>unfold TrAt at h2;obtain ⟨r,vs,rfl,g1⟩:=h2;cases r2;obtain ⟨its,p⟩:=eN I g1;simp only [eqT];exact SeqAt.EqAt.str_list d t0 p hu0
 |ls=>
  unfold TrAt at h1
  obtain ⟨r0,vs0,rfl,g0⟩:=h1
  cases r1
  obtain ⟨its0,p0⟩:=eN I g0
  cases u with
  |non=>unfold TrAt at h2;subst h2;cases (show b=Value.none from r2);simp only [eqT];exact SeqAt.EqAt.list_none p0 hu0
  |bl c=>unfold TrAt at h2;subst h2;cases (show b=Value.bool c from r2);simp only [eqT];exact SeqAt.EqAt.list_bool c p0 hu0
  |int c=>unfold TrAt at h2;subst h2;obtain ⟨t',rfl⟩:=r2;simp only [eqT];exact SeqAt.EqAt.list_int c t' p0 hu0
  |str c=>unfold TrAt at h2;subst h2;obtain ⟨t',rfl⟩:=r2;simp only [eqT];exact SeqAt.EqAt.list_str c t' p0 hu0
  |tup us=>unfold TrAt at h2;obtain ⟨r,vs,rfl,g1,_⟩:=h2;cases r2;obtain ⟨its,p⟩:=eM I g1;simp only [eqT];exact SeqAt.EqAt.list_tuple p0 p hu0
  |ls=>rcases hp with hp|hp<;>simp [Tr.pure] at hp
theorem kh (I:Inv X pins σ H s):∀(n:Nat) {A:Around} {t u:Tr} {v w:V} {a b:Value},t.depth≤n→(t.pure∨u.pure)→TrAt H v t→TrAt H w u→RelV v a→RelV w b→A.units+n+1 < cLine→SeqAt.EqAt A s a b (eqT t u):=by
 intro n
 induction n with
 |zero=>
  intro A t u v w a b hd hp h1 h2 r1 r2 hu
  refine p6 I (fun ts e=> ?_) hp h1 h2 r1 r2 (by omega)
  subst e
  simp [Tr.depth] at hd
 |succ n ih=>
  intro A t u v w a b hd hp h1 h2 r1 r2 hu
  have hu0:A.units < cLine:=by omega
  cases t with
  |tup ts=>
   have h1':=h1
   have h2':=h2
   unfold TrAt at h1
   obtain ⟨r0,vs0,rfl,g0,k0⟩:=h1
   cases r1
   obtain ⟨its0,p0⟩:=eM I g0
   unfold Tr.depth at hd
   cases u with
   |non=>unfold TrAt at h2;subst h2;cases (show b=Value.none from r2);simp only [eqT];exact SeqAt.EqAt.tuple_none p0 hu0
   |bl c=>unfold TrAt at h2;subst h2;cases (show b=Value.bool c from r2);simp only [eqT];exact SeqAt.EqAt.tuple_bool c p0 hu0
   |int c=>unfold TrAt at h2;subst h2;obtain ⟨t',rfl⟩:=r2;simp only [eqT];exact SeqAt.EqAt.tuple_int c t' p0 hu0
   |str c=>unfold TrAt at h2;subst h2;obtain ⟨t',rfl⟩:=r2;simp only [eqT];exact SeqAt.EqAt.tuple_str c t' p0 hu0
   |ls=>unfold TrAt at h2;obtain ⟨r,vs,rfl,g1⟩:=h2;cases r2;obtain ⟨its,p⟩:=eN I g1;simp only [eqT];exact SeqAt.EqAt.tuple_list p0 p hu0
   |tup us=>
    unfold TrAt at h2
    obtain ⟨r,vs,rfl,g1,k1⟩:=h2
    cases r2
    by_cases z:r0=r
    · subst z
      rw [←TrAt.det h1' h2',jq]
      exact SeqAt.EqAt.same _
    · have:=qh I g0 g1 hu0 (eqJ ts us) z fun j x y u' v' m1 m2 q1 q2=>by
       obtain ⟨t1,n1,a1⟩:=k0.get' m1
       obtain ⟨t2,n2,a2⟩:=k1.get' m2
       rw [uj n1 n2]
       refine ih (A:=A.in1) (by have:=cm (z7 n1);omega) ?_ a1 a2 q1 q2 (by show A.units+1+n+1 < cLine;omega)
       rcases hp with hp|hp
       · unfold Tr.pure at hp
         exact .inl (eR hp (z7 n1))
       · unfold Tr.pure at hp
         exact .inr (eR hp (z7 n2))
      rw [k0.len,k1.len,←i7] at this
      simp only [eqT]
      exact this
  |_=>exact p6 I (fun ts e=>by cases e) hp h1 h2 r1 r2 hu0
end
open PySem PySem.Spec PyProof.Rows L2
open PySem.AutoSeq1 (wpAny_loadPart')
def LtAt (A:Around) (s:Shared) (y x:Value) (b:Bool):Prop:=
 ∀(prog:Program) (w:World) (E:Value→Shared→Prop) (Q:Value→Shared→Prop),Q (.bool b) s→wpAny (model prog w) A (richCompare .Lt y x) Q E s
def cY (A:Around) (s:Shared):List Value→List Value→List (Bool×Bool)→Prop
 |v::vs,w::ws,(e,l)::q=>SeqAt.EqAt A s v w e∧(e=false→LtAt A s v w l)∧(e=true→cY A s vs ws q)
 | [],_,q=>q= []
 |_,[],q=>q= []
 |_,_,_=>False
noncomputable def lexV (fin:Bool):List (Bool×Bool)→Bool
 | []=>fin
 |(e,l)::q=>if e=true then lexV fin q else l
theorem kc (l b:Addr) (items items2:Array Value) (n n2:Nat) (dd dd2:Option Addr) (sl sl2:Array (Option Value)) (q:List (Bool×Bool)):
 Meets (Builtin.«tuple.__lt__» ⟨[.ref l, .ref b],[]⟩)
  (fun A R s=>s.heap.get? l=some {cls:= .type "tuple",dict:=dd,data:= .seq items n,slots:=sl}∧s.heap.get? b=some {cls:= .type "tuple",dict:=dd2,data:= .seq items2 n2,slots:=sl2}∧
   cY A.in1 s items.toList items2.toList q∧R (.ok (.ret (.bool (lexV (decide (items.size < items2.size)) q)))) s):=
 .of_wp fun prog w A R s h=>by
  obtain ⟨hp,g,d,tk,os⟩:=s;obtain ⟨hl,hb,hx,h⟩:=h
  have f2:=AutoSeq1.sub_tuple_tuple
  wp_walk using wpAny_loadPart' hl,wpAny_loadPart' hb,wpAny_forIn_list _ (fun rest b s'=>b.1=none∧s'=⟨hp,g,d,tk,os⟩∧∃(vs ws:List Value) (q':List (Bool×Bool)),rest=vs.zip ws∧
   cY A.in1 ⟨hp,g,d,tk,os⟩ vs ws q'∧R (.ok (.ret (.bool (lexV (decide (items.size < items2.size)) q')))) ⟨hp,g,d,tk,os⟩) _
  case turn=>
   rintro ⟨y,x⟩ rest b s' ⟨hb',rfl,vs,ws,q',hz,hlx,hR⟩
   match vs,ws,q',hz,hlx,hR with
   | [],_,_,hz,_,_=>rw [List.zip_nil_left] at hz;cases hz
   |_::_,[],_,hz,_,_=>rw [List.zip_nil_right] at hz;cases hz
   |v::vs,w'::ws,[],_,hlx,_=>exact hlx.elim
   |v::vs,w'::ws,(e,lo)::q',hz,hlx,hR=>
    rw [A9] at hz
    injection hz with hyx hrest
    injection hyx with hy hx'
    subst hy hx'
    obtain ⟨he,hlt,hlx⟩:=hlx
    refine wpAny_bind (he prog w _ _ ?_)
    cases e with
    |true=>
     wp_walk
     exact ⟨rfl,rfl,_,_,_,hrest,hlx rfl,hR⟩
    |false=>
     have hri:=hlt rfl prog w
     wp_walk using hri
     exact ⟨_,rfl,hR⟩
  case fin=>
   rintro ⟨b1,b2⟩ s' ⟨hb',rfl,vs,ws,q',hz,hlx,hR⟩
   simp only at hb'
   subst hb'
   have hq:q'= []:=by
    match vs,ws,q',hz,hlx with
    | [],_,_,_,hlx=>unfold cY at hlx;exact hlx
    |_::_,[],_,_,hlx=>unfold cY at hlx;exact hlx
    |_::_,_::_,_,hz,_=>rw [A9] at hz;cases hz
   subst hq
   wp_walk
   exact ⟨_,rfl,by simpa [Builtin.Tuple.tupleCompareSizes,lexV] using hR⟩
  case h=>
   exact ⟨rfl,rfl,items.toList,items2.toList,q,rfl,hx,h⟩
theorem nP {A:Around} {s:Shared} {l b:Addr} {items items2:Array Value} {q:List (Bool×Bool)} (hl:s.heap.IsTuple l items) (hb:s.heap.IsTuple b items2) (hu:A.units < cLine)
 (hx:cY A.in1 s items.toList items2.toList q):LtAt A s (.ref l) (.ref b) (lexV (decide (items.size < items2.size)) q):=by
 intro prog w E Q h
 obtain ⟨⟨cls,dd,data,sl⟩,ho,hc,n,hd⟩:=id hl
 obtain ⟨⟨cls2,dd2,data2,sl2⟩,ho2,hc2,n2,hd2⟩:=id hb
 simp only at hc hd hc2 hd2
 subst hc hd hc2 hd2
 exact richCompare_meets_room (op:= .Lt) ⟨_,ho,rfl⟩ ⟨_,ho2,rfl⟩ PySem.F.slot_tuple_lt PySem.F.entry_tuple_lt (PySem.F.args_tuple_lt_2 _ _) (kc l b items items2 n n2 dd dd2 sl sl2 q)
  ⟨ho,ho2,hx,show Value.bool (lexV (decide (items.size < items2.size)) q)≠Value.notImplemented∧Q (.bool (lexV (decide (items.size < items2.size)) q)) s from ⟨(fun x=>nomatch x),h⟩⟩ hu
end Tre
namespace Tre
open PySem L2
inductive Co where
 |non
 |num (i:Int)
 |str (l:List Nat)
 |tup (cs:List Co)
 |ls
noncomputable def Co.kind:Co→Nat
 | .non=>0
 | .num _=>1
 | .str _=>2
 | .tup _=>3
 | .ls=>4
mutual
noncomputable def code:Tr→Co
 | .non=> .non
 | .bl b=> .num (if b then 1 else 0)
 | .int i=> .num i
 | .str x=> .str x.cps.toList
 | .tup ts=> .tup (codes ts)
 | .ls=> .ls
noncomputable def codes:List Tr→List Co
 | []=> []
 |t::ts=>code t::codes ts
end
theorem ku (x y:Str):((x==y)=true)↔x.cps.toList=y.cps.toList:=by
 rw [beq_iff_eq]
 constructor
 · rintro rfl
   rfl
 · intro h
   cases x
   cases y
   simp only [Str.mk.injEq]
   exact Array.toList_inj.mp h
mutual
theorem dw:∀(t u:Tr),(eqT t u=true)↔code t=code u
 | .non,u=>by cases u<;>simp [eqT,code]
 | .bl a,u=>by cases u<;>simp [eqT,code];cases a<;>rename_i b<;>cases b<;>simp
 | .int i,u=>by cases u<;>simp [eqT,code]
 | .str x, .str y=>by simp only [eqT,code,Co.str.injEq];exact ku x y
 | .str x, .non=>by simp [eqT,code]
 | .str x, .bl _=>by simp [eqT,code]
 | .str x, .int _=>by simp [eqT,code]
 | .str x, .tup _=>by simp [eqT,code]
 | .str x, .ls=>by simp [eqT,code]
 | .ls,u=>by cases u<;>simp [eqT,code]
 | .tup ts, .tup us=>by simp only [eqT,code,Co.tup.injEq];exact eqTs_code ts us
 | .tup ts, .non=>by simp [eqT,code]
 | .tup ts, .bl _=>by simp [eqT,code]
 | .tup ts, .int _=>by simp [eqT,code]
 | .tup ts, .str _=>by simp [eqT,code]
 | .tup ts, .ls=>by simp [eqT,code]
theorem eqTs_code:∀(ts us:List Tr),(eqTs ts us=true)↔codes ts=codes us
 | [],[]=>by simp [eqTs,codes]
 | [],u::us=>by simp [eqTs,codes]
 |t::ts,[]=>by simp [eqTs,codes]
 |t::ts,u::us=>by
  simp only [eqTs,codes,zS,Ad]
  rw [dw t u,eqTs_code ts us]
end
mutual
def LtC:Co→Co→Prop
 | .num i, .num j=>i < j
 | .str l, .str m=>l < m
 | .tup cs, .tup ds=>LtCs cs ds
 |c,d=>c.kind < d.kind
def LtCs:List Co→List Co→Prop
 | [],[]=>False
 | [],_::_=>True
 |_::_,[]=>False
 |c::cs,d::ds=>LtC c d∨(c=d∧LtCs cs ds)
end
theorem mQ {c d:Co} (h:LtC c d):c.kind≤d.kind:=by
 cases c<;>cases d<;>simp [LtC,Co.kind] at h ⊢
theorem mK {c d:Co} (h:c.kind < d.kind):LtC c d:=by
 cases c<;>cases d<;>simp [LtC,Co.kind] at h ⊢
mutual
theorem lj:∀c:Co,¬LtC c c
 | .non=>by simp [LtC,Co.kind]
 | .num _=>by simp [LtC]
 | .str l=>by simp only [LtC];exact List.lt_irrefl l
 | .tup cs=>by simp only [LtC];exact ltCs_irr cs
 | .ls=>by simp [LtC,Co.kind]
theorem ltCs_irr:∀cs:List Co,¬LtCs cs cs
 | []=>by simp [LtCs]
 |c::cs=>by
  simp only [LtCs,not_or]
  exact ⟨lj c,fun h=>ltCs_irr cs h.2⟩
end
mutual
theorem lh:∀c d:Co,LtC c d∨c=d∨LtC d c
 | .num i, .num j=>by simp only [LtC,Co.num.injEq];omega
 | .str l, .str m=>by
  simp only [LtC,Co.str.injEq]
  by_cases h1:l < m
  · exact .inl h1
  · by_cases h2:m < l
    · exact .inr (.inr h2)
    · exact .inr (.inl (List.le_antisymm (List.not_lt.mp h2) (List.not_lt.mp h1)))
 | .tup cs, .tup ds=>by simp only [LtC,Co.tup.injEq];exact ltCs_tri cs ds
 | .non,d=>by cases d<;>simp [LtC,Co.kind]
 | .ls,d=>by cases d<;>simp [LtC,Co.kind]
 | .num i, .non=>by simp [LtC,Co.kind]
 | .num i, .str _=>by simp [LtC,Co.kind]
 | .num i, .tup _=>by simp [LtC,Co.kind]
 | .num i, .ls=>by simp [LtC,Co.kind]
 | .str i, .non=>by simp [LtC,Co.kind]
 | .str i, .num _=>by simp [LtC,Co.kind]
 | .str i, .tup _=>by simp [LtC,Co.kind]
 | .str i, .ls=>by simp [LtC,Co.kind]
 | .tup i, .non=>by simp [LtC,Co.kind]
 | .tup i, .num _=>by simp [LtC,Co.kind]
 | .tup i, .str _=>by simp [LtC,Co.kind]
 | .tup i, .ls=>by simp [LtC,Co.kind]
theorem ltCs_tri:∀cs ds:List Co,LtCs cs ds∨cs=ds∨LtCs ds cs
 | [],[]=>by simp
 | [],d::ds=>by simp [LtCs]
 |c::cs,[]=>by simp [LtCs]
 |c::cs,d::ds=>by
  simp only [LtCs,Ad]
  rcases lh c d with h|h|h
  · exact .inl (.inl h)
  · rcases ltCs_tri cs ds with g|g|g
    · exact .inl (.inr ⟨h,g⟩)
    · exact .inr (.inl ⟨h,g⟩)
    · exact .inr (.inr (.inr ⟨h.symm,g⟩))
  · exact .inr (.inr (.inl h))
end
theorem aN {a b c:Co} (h1:LtC a b) (h2:LtC b c) (hk:a.kind < b.kind∨b.kind < c.kind):LtC a c:=by
 have k1:=mQ h1
 have k2:=mQ h2
 exact mK (by omega)
mutual
theorem fY:∀ {a b c:Co},LtC a b→LtC b c→LtC a c
 | .num i, .num j, .num k,h1,h2=>by simp only [LtC] at *;omega
 | .str i, .str j, .str k,h1,h2=>by simp only [LtC] at *;exact List.lt_trans h1 h2
 | .tup i, .tup j, .tup k,h1,h2=>by simp only [LtC] at *;exact ltCs_trans h1 h2
 | .num _, .num _, .str _,h1,h2=>aN h1 h2 (by simp [LtC,Co.kind] at h1 h2 ⊢)
 | .num _, .num _, .tup _,h1,h2=>aN h1 h2 (by simp [LtC,Co.kind] at h1 h2 ⊢)
 | .num _, .num _, .non,h1,h2=>aN h1 h2 (by simp [LtC,Co.kind] at h1 h2 ⊢)
 | .num _, .num _, .ls,h1,h2=>aN h1 h2 (by simp [LtC,Co.kind] at h1 h2 ⊢)
 | .num _, .str _,_,h1,h2=>aN h1 h2 (by simp [LtC,Co.kind] at h1 h2 ⊢)
 | .num _, .tup _,_,h1,h2=>aN h1 h2 (by simp [LtC,Co.kind] at h1 h2 ⊢)
 | .num _, .non,_,h1,h2=>aN h1 h2 (by simp [LtC,Co.kind] at h1 h2 ⊢)
 | .num _, .ls,_,h1,h2=>aN h1 h2 (by simp [LtC,Co.kind] at h1 h2 ⊢)
 | .str _, .str _, .num _,h1,h2=>aN h1 h2 (by simp [LtC,Co.kind] at h1 h2 ⊢)
 | .str _, .str _, .tup _,h1,h2=>aN h1 h2 (by simp [LtC,Co.kind] at h1 h2 ⊢)
 | .str _, .str _, .non,h1,h2=>aN h1 h2 (by simp [LtC,Co.kind] at h1 h2 ⊢)
 | .str _, .str _, .ls,h1,h2=>aN h1 h2 (by simp [LtC,Co.kind] at h1 h2 ⊢)
 | .str _, .num _,_,h1,h2=>aN h1 h2 (by simp [LtC,Co.kind] at h1 h2 ⊢)
 | .str _, .tup _,_,h1,h2=>aN h1 h2 (by simp [LtC,Co.kind] at h1 h2 ⊢)
 | .str _, .non,_,h1,h2=>aN h1 h2 (by simp [LtC,Co.kind] at h1 h2 ⊢)
 | .str _, .ls,_,h1,h2=>aN h1 h2 (by simp [LtC,Co.kind] at h1 h2 ⊢)
 | .tup _, .tup _, .num _,h1,h2=>aN h1 h2 (by simp [LtC,Co.kind] at h1 h2 ⊢)
 | .tup _, .tup _, .str _,h1,h2=>aN h1 h2 (by simp [LtC,Co.kind] at h1 h2 ⊢)
 | .tup _, .tup _, .non,h1,h2=>aN h1 h2 (by simp [LtC,Co.kind] at h1 h2 ⊢)
 | .tup _, .tup _, .ls,h1,h2=>aN h1 h2 (by simp [LtC,Co.kind] at h1 h2 ⊢)
 | .tup _, .num _,_,h1,h2=>aN h1 h2 (by simp [LtC,Co.kind] at h1 h2 ⊢)
 | .tup _, .str _,_,h1,h2=>aN h1 h2 (by simp [LtC,Co.kind] at h1 h2 ⊢)
 | .tup _, .non,_,h1,h2=>aN h1 h2 (by simp [LtC,Co.kind] at h1 h2 ⊢)
 | .tup _, .ls,_,h1,h2=>aN h1 h2 (by simp [LtC,Co.kind] at h1 h2 ⊢)
 | .non,b,_,h1,h2=>aN h1 h2 (by cases b<;>simp [LtC,Co.kind] at h1 h2 ⊢)
 | .ls,b,_,h1,h2=>aN h1 h2 (by cases b<;>simp [LtC,Co.kind] at h1 h2 ⊢)
theorem ltCs_trans:∀ {a b c:List Co},LtCs a b→LtCs b c→LtCs a c
 | [],[],_,h1,_=>by simp [LtCs] at h1
 | [],_::_,[],_,h2=>by simp [LtCs] at h2
 | [],_::_,_::_,_,_=>by simp [LtCs]
 |_::_,[],_,h1,_=>by simp [LtCs] at h1
 |_::_,_::_,[],_,h2=>by simp [LtCs] at h2
 |x::a,y::b,z::c,h1,h2=>by
  simp only [LtCs] at*
  rcases h1 with h1|⟨e1,h1⟩
  · rcases h2 with h2|⟨e2,h2⟩
    · exact .inl (fY h1 h2)
    · exact .inl (e2▸h1)
  · rcases h2 with h2|⟨e2,h2⟩
    · exact .inl (e1▸h2)
    · exact .inr ⟨e1.trans e2,ltCs_trans h1 h2⟩
end
open Classical in
noncomputable def ltT (t u:Tr):Bool:=decide (LtC (code t) (code u))
open Classical in
theorem ltT_iff {t u:Tr}:(ltT t u=true)↔LtC (code t) (code u):=by
 unfold ltT
 exact decide_eq_true_iff
theorem hW {t u:Tr} (h:ltT t u=true):ltT u t=false:=by
 cases e:ltT u t with
 |false=>rfl
 |true=>exact absurd (fY (ltT_iff.mp h) (ltT_iff.mp e)) (lj _)
theorem tO {a b c:Tr} (h1:ltT b a=false) (h2:ltT c b=false):ltT c a=false:=by
 cases e:ltT c a with
 |false=>rfl
 |true=>
  have n1:¬LtC (code b) (code a):=fun z=>by rw [ltT_iff.mpr z] at h1;cases h1
  have n2:¬LtC (code c) (code b):=fun z=>by rw [ltT_iff.mpr z] at h2;cases h2
  have l:=ltT_iff.mp e
  rcases lh (code a) (code b) with q|q|q
  · exact absurd (fY l q) n2
  · rw [q] at l
    exact absurd l n2
  · exact absurd q n1
theorem oq {a b:Tr} (h1:ltT a b=false) (h2:ltT b a=false):eqT a b=true:=by
 rw [dw]
 rcases lh (code a) (code b) with q|q|q
 · rw [ltT_iff.mpr q] at h1
   cases h1
 · exact q
 · rw [ltT_iff.mpr q] at h2
   cases h2
open PySem PySem.Spec PyProof.Rows L2
mutual
def Cm:Tr→Tr→Prop
 | .bl _, .bl _=>True
 | .int _, .int _=>True
 | .str _, .str _=>True
 | .tup ts, .tup us=>Cms ts us
 |_,_=>False
def Cms:List Tr→List Tr→Prop
 |t::ts,u::us=>(eqT t u=true∧Cms ts us)∨(eqT t u=false∧Cm t u)
 | [],_=>True
 |_::_,[]=>True
end
noncomputable def qs:List Tr→List Tr→List (Bool×Bool)
 |t::ts,u::us=>(eqT t u,ltT t u)::qs ts us
 | [],_=> []
 |_::_,[]=> []
theorem j0:∀(ts us:List Tr),(lexV (decide (ts.length < us.length)) (qs ts us)=true)↔LtCs (codes ts) (codes us)
 | [],[]=>by simp [qs,lexV,codes,LtCs]
 | [],u::us=>by simp [qs,lexV,codes,LtCs]
 |t::ts,[]=>by simp [qs,lexV,codes,LtCs]
 |t::ts,u::us=>by
  have ih:=j0 ts us
  have e:decide ((t::ts).length < (u::us).length)=decide (ts.length < us.length):=by simp
  rw [e]
  simp only [qs,lexV,codes,LtCs]
  by_cases h:eqT t u=true
  · rw [if_pos h,ih]
    have hc:=(dw t u).mp h
    rw [hc]
    constructor
    · intro z
      exact .inr ⟨rfl,z⟩
    · rintro (z|⟨_,z⟩)
      · exact absurd z (lj _)
      · exact z
  · rw [if_neg h]
    have hc:¬code t=code u:=fun z=>h ((dw t u).mpr z)
    constructor
    · intro z
      exact .inl (ltT_iff.mp z)
    · rintro (z|⟨z,_⟩)
      · exact ltT_iff.mpr z
      · exact absurd z hc
theorem cv {a b:Bool} (h:(a=true)↔(b=true)):a=b:=Ak.mpr h
section
variable {X:Cx} {pins:List (Addr×Obj)} {σ:L2.St} {H:Hp} {s:Shared}
theorem lq (I:Inv X pins σ H s) {n:Nat} {A:Around} (hu:A.units+n+1 < cLine)
 (ih:∀ {t u:Tr} {v w:V} {a b:Value},t.depth≤n→(t.pure∨u.pure)→Cm t u→TrAt H v t→TrAt H w u→RelV v a→RelV w b→LtAt A s a b (ltT t u)):
 ∀ {ts us:List Tr} {vs ws:List V} {as bs:List Value},Trs.depth ts≤n→(Trs.pure ts∨Trs.pure us)→Cms ts us→TrsAt H vs ts→TrsAt H ws us→Vals vs as→Vals ws bs→cY A s as bs (qs ts us)
 | [],us,vs,ws,as,bs,hd,hp,hc,h1,h2,r1,r2=>by
  unfold TrsAt at h1
  subst h1
  cases r1
  cases us<;>simp [cY,qs]
 |t::ts,[],vs,ws,as,bs,hd,hp,hc,h1,h2,r1,r2=>by
  unfold TrsAt at h2
  subst h2
  cases r2
  obtain ⟨v,r,rfl,_,_⟩:=h1.inv
  cases r1
  simp [cY,qs]
 |t::ts,u::us,vs,ws,as,bs,hd,hp,hc,h1,h2,r1,r2=>by
  obtain ⟨v,r,rfl,g1,g2⟩:=h1.inv
  obtain ⟨v',r',rfl,g3,g4⟩:=h2.inv
  unfold Trs.depth at hd
  have hp1:t.pure∨u.pure:=by
   rcases hp with hp|hp<;>unfold Trs.pure at hp
   · exact .inl hp.1
   · exact .inr hp.1
  have hp2:Trs.pure ts∨Trs.pure us:=by
   rcases hp with hp|hp<;>unfold Trs.pure at hp
   · exact .inl hp.2
   · exact .inr hp.2
  cases r1 with
  |cons q1 q2=>
   cases r2 with
   |cons q3 q4=>
    simp only [cY,qs]
    refine ⟨kh I n (by omega) hp1 g1 g3 q1 q3 hu,fun e=> ?_,fun e=> ?_⟩
    · unfold Cms at hc
      rcases hc with ⟨e',_⟩|⟨_,hc⟩
      · rw [e] at e'
        cases e'
      · exact ih (by omega) hp1 hc g1 g3 q1 q3
    · unfold Cms at hc
      rcases hc with ⟨_,hc⟩|⟨e',_⟩
      · exact lq I hu ih (by omega) hp2 hc g2 g4 q2 q4
      · rw [e] at e'
        cases e'
theorem p5 {A:Around} {t u:Tr} {v w:V} {a b:Value} (hd:∀ts,t≠ .tup ts) (hc:Cm t u) (h1:TrAt H v t) (h2:TrAt H w u) (r1:RelV v a) (r2:RelV w b):LtAt A s a b (ltT t u):=by
 cases t<;>cases u<;>unfold Cm at hc<;>first|exact hc.elim|skip
 · rename_i x y
   unfold TrAt at h1 h2
   subst h1 h2
   cases (show a=Value.bool x from r1)
   cases (show b=Value.bool y from r2)
   intro prog w' E Q h
   refine lt_bool ?_
   have e:decide (b2i x < b2i y)=ltT (.bl x) (.bl y):=by
    refine cv ?_
    rw [ltT_iff,decide_eq_true_iff]
    cases x<;>cases y<;>simp [code,LtC,b2i]
   rw [e]
   exact h
 · rename_i x y
   unfold TrAt at h1 h2
   subst h1 h2
   obtain ⟨t1,rfl⟩:=r1
   obtain ⟨t2,rfl⟩:=r2
   intro prog w' E Q h
   refine lt_int ?_
   have e:decide (x < y)=ltT (.int x) (.int y):=by
    refine cv ?_
    rw [ltT_iff,decide_eq_true_iff]
    simp [code,LtC]
   rw [e]
   exact h
 · rename_i x y
   unfold TrAt at h1 h2
   subst h1 h2
   obtain ⟨t1,rfl⟩:=r1
   obtain ⟨t2,rfl⟩:=r2
   intro prog w' E Q h
   refine lt_str ?_
   have e:decide (x.cps.toList < y.cps.toList)=ltT (.str x) (.str y):=by
    refine cv ?_
    rw [ltT_iff,decide_eq_true_iff]
    simp [code,LtC]
   rw [e]
   exact h
 · exact (hd _ rfl).elim
theorem kg (I:Inv X pins σ H s):∀(n:Nat) {A:Around} {t u:Tr} {v w:V} {a b:Value},t.depth≤n→(t.pure∨u.pure)→Cm t u→TrAt H v t→TrAt H w u→RelV v a→RelV w b→A.units+n+1 < cLine→LtAt A s a b (ltT t u):=by
 intro n
 induction n with
 |zero=>
  intro A t u v w a b hd hp hc h1 h2 r1 r2 hu
  refine p5 (fun ts e=> ?_) hc h1 h2 r1 r2
  subst e
  simp [Tr.depth] at hd
 |succ n ih=>
  intro A t u v w a b hd hp hc h1 h2 r1 r2 hu
  cases t with
  |tup ts=>
   cases u<;>first|(unfold Cm at hc;exact hc.elim)|skip
   rename_i us
   unfold Cm at hc
   unfold TrAt at h1 h2
   obtain ⟨r0,vs0,rfl,g0,k0⟩:=h1
   obtain ⟨r,vs,rfl,g1,k1⟩:=h2
   cases r1
   cases r2
   obtain ⟨as,q0,p0,_⟩:=I.tuple (SqT.of g0)
   obtain ⟨bs,q1,p1,_⟩:=I.tuple (SqT.of g1)
   unfold Tr.depth at hd
   have hp':Trs.pure ts∨Trs.pure us:=by
    rcases hp with hp|hp<;>unfold Tr.pure at hp
    · exact .inl hp
    · exact .inr hp
   have hu1:A.in1.units+n+1 < cLine:=by show A.units+1+n+1 < cLine;omega
   have hx:=lq (A:=A.in1) I hu1 (fun d pp cc a1 a2 b1 b2=>ih d pp cc a1 a2 b1 b2 hu1) (by omega) hp' hc k0 k1 q0 q1
   have:=nP (A:=A) (show s.heap.IsTuple r0 as.toArray from p0) (show s.heap.IsTuple r bs.toArray from p1) (by omega) (by simpa using hx)
   have e:lexV (decide (as.toArray.size < bs.toArray.size)) (qs ts us)=ltT (.tup ts) (.tup us):=by
    have l0:=k0.len
    have l1:=k1.len
    have l2:=q0.length
    have l3:=q1.length
    have e2:decide (as.toArray.size < bs.toArray.size)=decide (ts.length < us.length):=by
     rw [z5,z5,←l2,←l3,l0,l1]
    rw [e2]
    refine cv ?_
    rw [j0,ltT_iff]
    simp [code,LtC]
   rw [←e]
   exact this
  |_=>exact p5 (fun ts e=>by cases e) hc h1 h2 r1 r2
end
end Tre
namespace Srt
open PySem PySem.W PySem.Calls PyProof.Rows
theorem fV {α:Type} (d:α):∀(vs:List α),(List.range vs.length).map (fun i=>vs.getD i d)=vs
 | []=>rfl
 |v::vs=>by
  rw [zw,List.range_succ_eq_map,zo,List.map_map]
  have:=fV d vs
  simp only [Function.comp_def]
  show v::List.map (fun i=>vs.getD i d) (List.range vs.length)=v::vs
  rw [this]
theorem oO {α:Type}:∀(vs:List α),List.map (fun x=>x.snd) (vs.zip vs)=vs
 | []=>rfl
 |v::vs=>by
  rw [A9,zo,oO vs]
section
variable {prog:Program} {w:World} {A:Around} {E:Value→Shared→Prop} {s:Shared} {lt:Nat→Nat→Bool} {κ:SortKind}
def Stay (s:Shared) (a:Addr) (h':Heap):Prop:=∀b o,b≠a→s.heap.get? b=some o→h'.get? b=some o
theorem gj {a:Addr} {vs:List Value} {n:Nat} {P:PySem.Fin→Shared→Prop} (O:Ord lt) (ho:s.heap.get? a=some (seqObj "list" vs.toArray n)) (h64:vs.length < 64)
 (hkind:2≤vs.length→∀h',Stay s a h'→∀R:SortKind→Shared→Prop,R κ {s with heap:=h'}→wpAny (model prog w) A (keyKind' vs.toArray) R E {s with heap:=h'})
 (hask:∀h',Stay s a h'→∀i j (R:Bool→Shared→Prop),i < vs.length→j < vs.length→R (lt i j) {s with heap:=h'}→kas_ask prog w A κ vs i j R {s with heap:=h'})
 (h:∀p:Array Nat,Pm vs.length p→Up lt p vs.length→P (.done (.ret .none)) {s with heap:=sortedHeap s.heap a vs (List.toArray (p.toList.map fun i=>vs.getD i Value.none))}):
 wpAny (model prog w) A (Builtin.«list.sort» ⟨[.ref a],[]⟩) P E s:=by
 have ha:a < s.heap.objs.size:=Heap.lt_size ho
 rw [list_sort_plain]
 refine wpAny_bind (listItems_at ho rfl ?_)
 refine wpAny_bind (listUpdate_at ho rfl ?_ (by rw [z5,sizeLine_eq];omega) (zG _))
 obtain ⟨e1,ho1⟩:∃e1,(s.heap.update a (Obj.mapSeq fun _=>(#[]:Array Value))).get? a=some (seqObj "list" #[] e1):=⟨_,get?_update_seq ho fun _=> #[]⟩
 refine wpAny_bind (seqEpoch_at ho1 rfl ?_)
 refine wpAny_bind (wpAny_newTuple ?_ (by show vs.length≤_;rw [sizeLine_eq];omega))
 refine wpAny_bind (wpAny_newList ?_ (zG _))
 refine wpAny_holding ?_
 have s1:=Heap.SameBut.update s.heap a (Obj.mapSeq fun _=>(#[]:Array Value))
 have st:Stay s a (((s.heap.update a (Obj.mapSeq fun _=>(#[]:Array Value))).push (seqObj "tuple" vs.toArray 0)).push (seqObj "list" #[] 0)):=fun b o hb e=>
  Heap.get?_push_of_some _ (Heap.get?_push_of_some _ ((s1.2 b hb).trans e))
 have ho6:(((s.heap.update a (Obj.mapSeq fun _=>(#[]:Array Value))).push (seqObj "tuple" vs.toArray 0)).push (seqObj "list" #[] 0)).get? a=some (seqObj "list" #[] e1):=Heap.get?_push_of_some _ (Heap.get?_push_of_some _ ho1)
 show wpAny (model prog w) A _ P E {s with heap:=((s.heap.update a (Obj.mapSeq fun _=>(#[]:Array Value))).push (seqObj "tuple" vs.toArray 0)).push (seqObj "list" #[] 0)}
 dsimp only
 have out:∀p:Array Nat,Pm vs.length p→(List.toArray (p.toList.map fun i=>vs.getD i Value.none)).size≤sizeLine:=fun p hp=>by
  rw [z5,yW,zk,hp.size,sizeLine_eq]
  omega
 by_cases h2:vs.toArray.size < 2
 · rw [if_pos h2,if_pos h2]
   refine wpAny_bind (wpAny_pure ?_)
   rw [StateT.run_pure]
   refine wpAny_bind (wpAny_pure ?_)
   dsimp only
   refine wpAny_bind (seqEpoch_at ho6 rfl ?_)
   have h0:Pm vs.length (List.toArray (List.range vs.length)):=by
    unfold Pm
    simp
   have eo:(arrOf (SortSt.mk' general' (vs.toArray.zip vs.toArray) #[] 7 none)).map (·.2)=List.toArray ((List.toArray (List.range vs.length)).toList.map fun i=>vs.getD i Value.none):=by
    rw [List.toList_toArray,fV]
    show (vs.toArray.zip vs.toArray).map (·.2)=vs.toArray
    apply Array.toList_inj.mp
    simp
    exact oO vs
   rw [eo]
   refine wpAny_bind (listUpdate_at ho6 rfl ?_ (zG _) (Nat.le_succ_of_le (out _ h0)))
   simp only [bne_self_eq_false,zy,if_false]
   refine wpAny_pure (h _ h0 fun i j hij hj=> ?_)
   have hv:vs.length < 2:=by simpa using h2
   have:i=j:=by omega
   subst this
   exact O.refl _
 · rw [if_neg h2,if_neg h2]
   have h2':2≤vs.length:=by
    rw [z5] at h2
    omega
   refine wpAny_bind (hkind h2' _ st _ ?_)
   have run:(kas_sort vs.length).kasWp (kas_ask prog w A κ vs) (fun p s'=>(Pm vs.length p∧Up lt p vs.length)∧s'= {s with heap:=((s.heap.update a (Obj.mapSeq fun _=>(#[]:Array Value))).push (seqObj "tuple" vs.toArray 0)).push (seqObj "list" #[] 0)})
    {s with heap:=((s.heap.update a (Obj.mapSeq fun _=>(#[]:Array Value))).push (seqObj "tuple" vs.toArray 0)).push (seqObj "list" #[] 0)}:=
    rj (lt:=lt) (N:=vs.length) (G:=fun s'=>s'= {s with heap:=((s.heap.update a (Obj.mapSeq fun _=>(#[]:Array Value))).push (seqObj "tuple" vs.toArray 0)).push (seqObj "list" #[] 0)})
     (fun i j R s' hi hj hg hR=>by subst hg;exact hask _ st i j R hi hj (hR _ rfl)) (fun p s' hp hg=>⟨hp,hg⟩) (wW O (by omega)) rfl
   refine wpAny_bind (wpAny_mono (kat_run (ks:=vs) (Q:=fun st' s'=>∃p:Array Nat,(Pm vs.length p∧Up lt p vs.length)∧arrOf st'=p.map (kas_item (vs.toArray.zip vs.toArray))∧failedOf st'=none∧s'= {s with heap:=((s.heap.update a (Obj.mapSeq fun _=>(#[]:Array Value))).push (seqObj "tuple" vs.toArray 0)).push (seqObj "list" #[] 0)})
    rfl h2' h64 (fun p st' s' a1 a2 a3 a4=>⟨p,a4.1,a2,a3,a4.2⟩) run) ?_ fun _ _ e=>e)
   rintro ⟨⟨⟩,st'⟩ s' ⟨p,hp,har,hf,rfl⟩
   dsimp only
   refine wpAny_bind (seqEpoch_at ho6 rfl ?_)
   rw [kat_snds rfl har]
   refine wpAny_bind (listUpdate_at ho6 rfl ?_ (zG _) (Nat.le_succ_of_le (out p hp.1)))
   rw [hf]
   simp only [bne_self_eq_false,zy,if_false]
   exact wpAny_pure (h p hp.1 hp.2)
theorem nV {l:Addr} {vs:List Value} {Q:Value→Shared→Prop} (O:Ord lt) (hl:s.heap.IsList l vs.toArray) (h64:vs.length < 64)
 (hkind:2≤vs.length→∀h',(∀b o,s.heap.get? b=some o→h'.get? b=some o)→∀(E':Value→Shared→Prop) (R:SortKind→Shared→Prop),R κ {s with heap:=h'}→wpAny (model prog w) A.in1.in1 (keyKind' vs.toArray) R E' {s with heap:=h'})
 (hask:∀h',(∀b o,s.heap.get? b=some o→h'.get? b=some o)→∀i j (R:Bool→Shared→Prop),i < vs.length→j < vs.length→R (lt i j) {s with heap:=h'}→kas_ask prog w A.in1.in1 κ vs i j R {s with heap:=h'})
 (h:∀p:Array Nat,Pm vs.length p→Up lt p vs.length→Q (.ref (s.heap.objs.size+1)) {s with heap:=sortedAll s.heap vs (List.toArray (p.toList.map fun i=>vs.getD i Value.none))}):
 wpAny (model prog w) A (call (.builtin "sorted") [.ref l]) Q E s:=by
 refine Calls.call_function_entry kind_sorted plain_sorted entry_sorted (args_sorted1 _) ?_
 unfold Builtin.«sorted»
 refine wpAny_bind (m:=checkCount "sorted" 1 1 _) (wpAny_pure ?_)
 refine wpAny_bind (collect_list hl ?_ (by rw [sizeLine_eq];omega))
 refine wpAny_bind (wpAny_newList ?_ (by rw [sizeLine_eq];omega))
 have hsz:((s.heap.push (seqObj "list" #[] 0)).update s.heap.objs.size (Obj.mapSeq (· ++vs.toArray))).objs.size=s.heap.objs.size+1:=by
  rw [Heap.size_update,size_push']
 have hoL:(((s.heap.push (seqObj "list" #[] 0)).update s.heap.objs.size (Obj.mapSeq (· ++vs.toArray))).push (seqObj "list" vs.toArray 0)).get? (s.heap.objs.size+1)=some (seqObj "list" vs.toArray 0):=by
  rw [←hsz];exact Heap.get?_push_size _ rfl
 have keep:∀b o,s.heap.get? b=some o→(((s.heap.push (seqObj "list" #[] 0)).update s.heap.objs.size (Obj.mapSeq (· ++vs.toArray))).push (seqObj "list" vs.toArray 0)).get? b=some o∧b≠s.heap.objs.size+1:=fun b o q=>by
  have hlt:b < s.heap.objs.size:=Heap.lt_size q
  refine ⟨?_,zg (Al hlt)⟩
  rw [Heap.get?_push_ne _ _ _ (by rw [hsz];exact zg (Al hlt)),Heap.get?_update_ne _ _ _ _ (zg hlt),Heap.get?_push_ne _ _ _ (zg hlt)]
  exact q
 show wpAny _ _ _ _ _ {s with heap:=((s.heap.push (seqObj "list" #[] 0)).update s.heap.objs.size (Obj.mapSeq (· ++vs.toArray))).push (seqObj "list" vs.toArray 0)}
 rw [hsz]
 refine wpAny_bind (wpAny_holding (wpAny_call_entry slot_list_sort ⟨_,hoL,rfl⟩ entry_list_sort (gj (lt:=lt) (κ:=κ) O hoL h64 (fun h2 h' st R hR=>hkind h2 h' (fun b o e=>st b o (keep b o e).2 (keep b o e).1) _ R hR)
  (fun h' st i j R hi hj hR=>hask h' (fun b o e=>st b o (keep b o e).2 (keep b o e).1) i j R hi hj hR) fun p a1 a2=>⟨_,rfl,?_⟩) (args_list_sort _)))
 exact wpAny_pure ⟨_,rfl,h p a1 a2⟩
end
end Srt
namespace Tre
open PySem PySem.Spec PyProof.Rows L2 Srt
theorem jT {prog:Program} {w:World} {A:Around} {s:Shared} {fin:Bool} {Q:Bool→Shared→Prop}:∀ {as bs:List Value} {q:List (Bool×Bool)} {i:Nat},cY A s as bs q→Q (lexV fin q) s→PySem.W.KatLex prog w A false fin Q (as.zip bs) i s
 | [],_,q,i,h,hq=>by
  unfold cY at h
  subst h
  rw [List.zip_nil_left]
  exact PySem.W.kat_nil hq
 |_::_,[],q,i,h,hq=>by
  unfold cY at h
  subst h
  rw [List.zip_nil_right]
  exact PySem.W.kat_nil hq
 |a::as,b::bs,[],i,h,hq=>h.elim
 |a::as,b::bs,(e,l)::q,i,h,hq=>by
  obtain ⟨h1,h2,h3⟩:=h
  rw [A9]
  refine PySem.W.kat_cons (h1 prog w _ _ ?_)
  cases e with
  |true=>exact PySem.W.kat_yes (jT (h3 rfl) hq)
  |false=>
   refine PySem.W.kat_no ?_
   show wpAny _ _ (oneLt' false a b) _ _ _
   exact PySem.W.kat_one a b (h2 rfl prog w _ _ hq)
def Hd (t:Tr):Prop:=∃fs r,t= .tup (.tup fs::r)
theorem TrsAt.map {H:Hp} {vs:List V} {ts:List Tr} (h:TrsAt H vs ts):∀ {is:List Nat},(∀i∈is,i < ts.length)→TrsAt H (is.map fun i=>vs.getD i .non) (is.map fun i=>ts.getD i .non)
 | [],_=> .nil
 |i::is,hi=>by
  have h0:i < ts.length:=hi i yY
  have hl:=h.len
  obtain ⟨v,e1,e2⟩:=h.get (i:=i) (t:=ts[i]) (yX h0)
  have ev:vs.getD i .non=v:=by rw [zK,e1];rfl
  have et:ts.getD i .non=ts[i]:=by rw [zK,yX h0];rfl
  rw [zo,zo,ev,et]
  exact .cons e2 (TrsAt.map h fun j m=>hi j (z6 _ m))
theorem Vals.map {vs:List V} {as:List Value} (h:Vals vs as):∀ {is:List Nat},(∀i∈is,i < vs.length)→Vals (is.map fun i=>vs.getD i .non) (is.map fun i=>as.getD i Value.none)
 | [],_=> .nil
 |i::is,hi=>by
  have h0:i < vs.length:=hi i yY
  obtain ⟨u,e1,e2⟩:=h.get (i:=i) (x:=vs[i]) (yX h0)
  have ev:vs.getD i .non=vs[i]:=by rw [zK,yX h0];rfl
  have et:as.getD i Value.none=u:=by rw [zK,e1];rfl
  rw [zo,zo,ev,et]
  exact .cons e2 (Vals.map h fun j m=>hi j (z6 _ m))
section
variable {X:Cx} {pins:List (Addr×Obj)} {σ:L2.St} {H:Hp} {s:Shared}
theorem eY (I:Inv X pins σ H s) {r:Addr} {vs:List V} (h:H r=some (.tup vs)):∃(as:List Value) (o:Obj) (n:Nat),Vals vs as∧s.heap.get? r=some o∧o.cls= .type "tuple"∧o.data= .seq as.toArray n:=by
 obtain ⟨as,q,p,_⟩:=I.tuple (SqT.of h)
 obtain ⟨o,ho,hc,n,hd⟩:=(show s.heap.IsTuple r as.toArray from p)
 exact ⟨as,o,n,q,ho,hc,hd⟩
theorem jn (I:Inv X pins σ H s):∀ {vs:List V} {ts:List Tr} {as:List Value},TrsAt H vs ts→Vals vs as→(∀t∈ts,Hd t)→∃fs,PySem.W.KatTups s.heap as fs∧fs.length=as.length∧∀v∈fs,∃(r:Addr) (o:Obj),v= .ref r∧s.heap.get? r=some o∧o.cls= .type "tuple"
 |vs,[],as,h,r,_=>by
  unfold TrsAt at h
  subst h
  cases r
  exact ⟨[],PySem.W.KatTups.nil,rfl,fun v m=>by cases m⟩
 |vs,t::ts,as,h,r,hh=>by
  obtain ⟨v,vr,rfl,h1,h2⟩:=h.inv
  cases r with
  |cons q1 q2=>
   obtain ⟨fs,k1,k2,k3⟩:=jn I h2 q2 fun t m=>hh t (z6 _ m)
   obtain ⟨gs,gr,rfl⟩:=hh t yY
   unfold TrAt at h1
   obtain ⟨r0,vs0,rfl,g0,g1⟩:=h1
   cases q1
   obtain ⟨f,fr,rfl,h3,h4⟩:=g1.inv
   obtain ⟨as0,o,n,q3,ho,hc,hd⟩:=eY I g0
   cases q3 with
   |cons q5 q6=>
    unfold TrAt at h3
    obtain ⟨r1,vs1,rfl,g2,_⟩:=h3
    cases q5
    obtain ⟨_,o1,_,_,ho1,hc1,_⟩:=eY I g2
    refine ⟨.ref r1::fs,PySem.W.KatTups.cons ho hc hd (by simp) k1,by simp [k2],fun v m=> ?_⟩
    rcases zc.mp m with rfl|m
    · exact ⟨r1,o1,rfl,ho1,hc1⟩
    · exact k3 v m
def uX:List V→Hp→VK→Prop:=fun xs H Q=>∃(l:Addr) (vs:List V) (ts:List Tr),xs= [.ref l]∧H l=some (.lst vs)∧TrsAt H vs ts∧ts.length < 64∧(∀t∈ts,Hd t∧t.pure∧t.depth≤40)∧(∀t∈ts,∀u∈ts,Cm t u)∧
 ∀(D:Addr) (ws:List V) (us:List Tr),H D=none→us.Perm ts→TrsAt H ws us→(∀(i j:Nat) (t u:Tr),i≤j→us[i]?=some t→us[j]?=some u→ltT u t=false)→Q (.ref D) (upd H D (.lst ws))
theorem fq (hu:X.A.units+60 < cLine):dJ X (.builtin "sorted") uX:=by
 intro pins s σ H xs us Q I r h
 obtain ⟨l,vs,ts,rfl,hl,hT,hlen,hts,hcm,q⟩:=h
 obtain ⟨u,rfl,ru⟩:=eJ r
 cases ru
 obtain ⟨as,rv,pl,_⟩:=I.list (SqL.of hl)
 have l1:=hT.len
 have l2:=rv.length
 have O:Srt.Ord fun i j=>ltT (ts.getD i .non) (ts.getD j .non):=⟨fun a b h=>hW h,fun a b c h1 h2=>tO h1 h2⟩
 have at_:∀i,i < as.length→∃t v a,ts.getD i .non=t∧t∈ts∧TrAt H v t∧RelV v a∧as.getD i Value.none=a:=fun i hi=>by
  have hi':i < ts.length:=by omega
  obtain ⟨v,e1,e2⟩:=hT.get (i:=i) (t:=ts[i]) (yX hi')
  obtain ⟨a,e3,e4⟩:=rv.get e1
  exact ⟨ts[i],v,a,by rw [zK,yX hi'];rfl,List.getElem_mem hi',e2,e4,by rw [zK,e3];rfl⟩
 refine nV (κ:=tuples' false) O pl.isList (by omega) (fun h2 h' kp E' R hR=> ?_) (fun h' kp i j R hi hj hR=> ?_) fun p hp hup=> ?_
 · have I':Inv X pins σ H {s with heap:=h'}:=I.kept (t':=s.toks) kp
   obtain ⟨fs,k1,k2,k3⟩:=jn I' hT rv fun t m=>(hts t m).1
   refine PySem.W.kat_kind (T:=Value.type "tuple") k1 (by omega) (fun v m=> ?_) (by decide +kernel) ?_
   · obtain ⟨r,o,rfl,ho,hc⟩:=k3 v m
     have:PySem.W.Looks (model X.prog X.w) h' (typeOf (.ref r)) o.cls:=(PySem.W.Looks.ld ho).andThen .now
     rw [hc] at this
     exact this
   · rw [show (Value.type "tuple" !=Value.type "tuple")=false by decide +kernel]
     exact hR
 · have I':Inv X pins σ H {s with heap:=h'}:=I.kept (t':=s.toks) kp
   obtain ⟨t,v,a,et,mt,ht,ra,ea⟩:=at_ i hi
   obtain ⟨u,v',b,eu,mu,hu',rb,eb⟩:=at_ j hj
   have hc:=hcm t mt u mu
   obtain ⟨⟨f1,r1,rfl⟩,p1,d1⟩:=hts t mt
   obtain ⟨⟨f2,r2,rfl⟩,p2,d2⟩:=hts u mu
   unfold TrAt at ht hu'
   obtain ⟨x0,vs0,rfl,g0,g1⟩:=ht
   obtain ⟨y0,ws0,rfl,g2,g3⟩:=hu'
   cases ra
   cases rb
   obtain ⟨as0,o,n,q3,ho,hcl,hd⟩:=eY I' g0
   obtain ⟨bs0,o',n',q4,ho',hcl',hd'⟩:=eY I' g2
   unfold Tr.depth at d1
   unfold Tr.pure at p1
   unfold Cm at hc
   have hu1:X.A.in1.in1.units+40+1 < cLine:=by show X.A.units+1+1+40+1 < cLine;omega
   have hx:=lq (A:=X.A.in1.in1) I' hu1 (fun d pp cc a1 a2 b1 b2=>kg I' 40 d pp cc a1 a2 b1 b2 hu1) (by omega) (.inl p1) hc g1 g3 q3 q4
   unfold PySem.W.kas_ask
   rw [ea,eb]
   refine PySem.W.kat_lt (b:=false) ho hd ho' hd' ?_
   rw [List.toList_toArray,List.toList_toArray]
   refine jT hx ?_
   have e:lexV (decide (as0.toArray.size < bs0.toArray.size)) (qs (.tup f1::r1) (.tup f2::r2))=ltT (ts.getD i .non) (ts.getD j .non):=by
    have z0:=g1.len
    have z1:=g3.len
    have z2:=q3.length
    have z3:=q4.length
    have e2:decide (as0.toArray.size < bs0.toArray.size)=decide ((Tr.tup f1::r1).length < (Tr.tup f2::r2).length):=by
     rw [z5,z5,←z2,←z3,z0,z1]
    rw [e2,et,eu]
    refine cv ?_
    rw [j0,ltT_iff]
    simp [code,LtC]
   rw [e]
   exact hR
 · have hin:∀i∈p.toList,i < ts.length:=fun i m=>by
    have:=zN.mp (List.Perm.mem_iff hp |>.mp m)
    omega
   refine ⟨.ref (s.heap.objs.size+1),upd H (s.heap.objs.size+1) (.lst (p.toList.map fun i=>vs.getD i .non)),I.laid (t':=s.toks) (fun b o e=>sortedAll_old e) (Nat.le_succ _) ?_,rfl,?_⟩
   · obtain ⟨e,he⟩:=sortedAll_at s.heap as (List.toArray (p.toList.map fun i=>as.getD i Value.none))
     refine ⟨?_,p.toList.map fun i=>as.getD i Value.none,e,Vals.map rv fun i m=>by have:=hin i m;omega,he⟩
     rw [yW,zk,hp.size]
     have:(64:Nat)≤sizeLine:=by decide +kernel
     omega
   · refine q _ _ (p.toList.map fun i=>ts.getD i .non) (I.hok.fresh (Nat.le_succ _)) ?_ (TrsAt.map hT hin) fun i j t u hij e1 e2=> ?_
     · have:=List.Perm.map (fun i=>ts.getD i Tr.non) hp
       rw [show as.length=ts.length by omega,fV] at this
       exact this
     · rw [zF] at e1 e2
       obtain ⟨a,ea,rfl⟩:=zH.mp e1
       obtain ⟨b,eb,rfl⟩:=zH.mp e2
       have hj:j < as.length:=by
        have:=(zd.mp eb).1
        rw [zk,hp.size] at this
        exact this
       have:=hup i j hij hj
       rw [eI,eI,←zP,←zP,ea,eb] at this
       exact this
end
end Tre
namespace Tre
open PySem L2
inductive So where
 |tm|fr|pr|ws|lt
abbrev s_ (x:String):Tr:= .str (Str.ofString x)
inductive Ty:So→Tr→Prop
 |nm (x:Str):Ty .tm (.tup [s_ "name", .str x])
 |ap (x:Str) (ts:List Tr):ts.length≤3→(∀t∈ts,Ty .tm t)→Ty .tm (.tup [s_ "call", .str x, .tup ts])
 |fr (a b:Int):Ty .fr (.tup [.int a, .int b])
 |pr (t f:Tr):Ty .tm t→Ty .fr f→Ty .pr (.tup [t,f])
 |fl (x:Str):Ty .ws (.tup [s_ "flag", .str x])
 |mo (ps:List Tr) (f:Tr):(∀p∈ps,Ty .pr p)→Ty .fr f→Ty .ws (.tup [s_ "most", .tup ps,f])
 |li (t u:Tr):Ty .tm t→Ty .tm u→Ty .ws (.tup [s_ "like",t,u])
 |no (w:Tr):Ty .ws w→Ty .ws (.tup [s_ "not",w])
 |bo (l:List Tr):(∀w∈l,Ty .ws w)→Ty .ws (.tup [s_ "both", .tup l])
 |ei (l:List Tr):(∀w∈l,Ty .ws w)→Ty .ws (.tup [s_ "either", .tup l])
 |lt (w:Tr) (b:Bool):Ty .ws w→Ty .lt (.tup [w, .bl b])
theorem aT {t u:Tr} {ts us:List Tr} (h1:eqT t u=false→Cm t u) (h2:Cms ts us):Cms (t::ts) (u::us):=by
 unfold Cms
 cases e:eqT t u with
 |true=>exact .inl ⟨rfl,h2⟩
 |false=>exact .inr ⟨rfl,h1 e⟩
theorem xX {t u:Tr} {ts us:List Tr} (h0:eqT t u=false) (h1:Cm t u):Cms (t::ts) (u::us):=by
 unfold Cms
 exact .inr ⟨h0,h1⟩
theorem cD {us:List Tr}:Cms [] us:=by
 cases us<;>simp [Cms]
theorem cZ (x y:Str):Cm (.str x) (.str y):=by simp [Cm]
theorem uy (x y:Int):Cm (.int x) (.int y):=by simp [Cm]
theorem yU (x y:Bool):Cm (.bl x) (.bl y):=by simp [Cm]
theorem jv {ts us:List Tr} (h:Cms ts us):Cm (.tup ts) (.tup us):=by
 unfold Cm
 exact h
theorem j3 {ts us:List Tr} (h:∀t∈ts,∀u∈us,Cm t u):Cms ts us:=by
 induction ts generalizing us with
 |nil=>exact cD
 |cons t ts ih=>
  cases us with
  |nil=>simp [Cms]
  |cons u us=>exact aT (fun _=>h t yY u yY) (ih fun a ma b mb=>h a (z6 _ ma) b (z6 _ mb))
theorem lO:∀(n:Nat) {k:So} {t u:Tr},t.depth≤n→Ty k t→Ty k u→Cm t u:=by
 intro n
 induction n with
 |zero=>
  intro k t u hd h1 h2
  cases h1<;>simp [Tr.depth] at hd
 |succ n ih=>
  intro k t u hd h1 h2
  have sub:∀ {ts:List Tr} {t:Tr},(Tr.tup ts).depth≤n+1→t∈ts→t.depth≤n:=fun h m=>by
   unfold Tr.depth at h
   have:=cm m
   omega
  have sub2:∀ {ts l:List Tr} {t:Tr},(Tr.tup ts).depth≤n+1→Tr.tup l∈ts→t∈l→t.depth≤n:=fun h m m2=>by
   have h3:=sub h m
   unfold Tr.depth at h3
   have:=cm m2
   omega
  cases h1<;>cases h2<;>refine jv ?_
  all_goals first
   |exact xX (by decide +kernel) (cZ _ _)
   |skip
  · exact aT (fun _=>cZ _ _) (aT (fun _=>cZ _ _) cD)
  · rename_i x ts _ h1 y us _ h2
    exact aT (fun _=>cZ _ _) (aT (fun _=>cZ _ _) (aT (fun _=>jv (j3 fun a ma b mb=>ih (sub2 hd (by simp) ma) (h1 a ma) (h2 b mb))) cD))
  · exact aT (fun _=>uy _ _) (aT (fun _=>uy _ _) cD)
  · rename_i t1 f1 a1 b1 t2 f2 a2 b2
    exact aT (fun _=>ih (sub hd (by simp)) a1 a2) (aT (fun _=>ih (sub hd (by simp)) b1 b2) cD)
  · exact aT (fun _=>cZ _ _) (aT (fun _=>cZ _ _) cD)
  · rename_i p1 f1 a1 b1 p2 f2 a2 b2
    exact aT (fun _=>cZ _ _) (aT (fun _=>jv (j3 fun a ma b mb=>ih (sub2 hd (by simp) ma) (a1 a ma) (a2 b mb))) (aT (fun _=>ih (sub hd (by simp)) b1 b2) cD))
  · rename_i t1 u1 a1 b1 t2 u2 a2 b2
    exact aT (fun _=>cZ _ _) (aT (fun _=>ih (sub hd (by simp)) a1 a2) (aT (fun _=>ih (sub hd (by simp)) b1 b2) cD))
  · rename_i w1 a1 w2 a2
    exact aT (fun _=>cZ _ _) (aT (fun _=>ih (sub hd (by simp)) a1 a2) cD)
  · rename_i l1 a1 l2 a2
    exact aT (fun _=>cZ _ _) (aT (fun _=>jv (j3 fun a ma b mb=>ih (sub2 hd (by simp) ma) (a1 a ma) (a2 b mb))) cD)
  · rename_i l1 a1 l2 a2
    exact aT (fun _=>cZ _ _) (aT (fun _=>jv (j3 fun a ma b mb=>ih (sub2 hd (by simp) ma) (a1 a ma) (a2 b mb))) cD)
  · rename_i w1 b1 a1 w2 b2 a2
    exact aT (fun _=>ih (sub hd (by simp)) a1 a2) (aT (fun _=>yU _ _) cD)
theorem fh {ts:List Tr} (h:∀t∈ts,t.pure):Trs.pure ts:=by
 induction ts with
 |nil=>unfold Trs.pure;trivial
 |cons t ts ih=>
  unfold Trs.pure
  exact ⟨h t yY,ih fun u m=>h u (z6 _ m)⟩
theorem cV {k:So} {t:Tr} (h:Ty k t):t.pure:=by
 induction h with
 |nm x=>simp [Tr.pure,Trs.pure]
 |ap x ts _ _ ih=>simp only [Tr.pure,Trs.pure];exact ⟨trivial,trivial,fh ih,trivial⟩
 |fr a b=>simp [Tr.pure,Trs.pure]
 |pr t f _ _ h1 h2=>simp only [Tr.pure,Trs.pure];exact ⟨h1,h2,trivial⟩
 |fl x=>simp [Tr.pure,Trs.pure]
 |mo ps f _ _ h1 h2=>simp only [Tr.pure,Trs.pure];exact ⟨trivial,fh h1,h2,trivial⟩
 |li t u _ _ h1 h2=>simp only [Tr.pure,Trs.pure];exact ⟨trivial,h1,h2,trivial⟩
 |no w _ h1=>simp only [Tr.pure,Trs.pure];exact ⟨trivial,h1,trivial⟩
 |bo l _ h1=>simp only [Tr.pure,Trs.pure];exact ⟨trivial,fh h1,trivial⟩
 |ei l _ h1=>simp only [Tr.pure,Trs.pure];exact ⟨trivial,fh h1,trivial⟩
 |lt w b _ h1=>simp only [Tr.pure,Trs.pure];exact ⟨h1,trivial,trivial⟩
theorem re {t:Tr} (h:Ty .lt t∨Ty .pr t):Hd t:=by
 rcases h with h|h
 · cases h with
   |lt w b hw=>cases hw<;>exact ⟨_,_,rfl⟩
 · cases h with
   |pr t f ht hf=>cases ht<;>exact ⟨_,_,rfl⟩
end Tre
namespace Mth
theorem uf (a b:Int):Int.gcd b (a.fmod b)=Int.gcd a b:=by
 have e:a.fmod b=a - b*a.fdiv b:=Int.fmod_def a b
 rw [e,A3 a b]
 have:a - b*a.fdiv b=a+b*(-(a.fdiv b)):=by rw [Int.mul_neg,Int.sub_eq_add_neg]
 rw [this]
 exact Int.gcd_add_mul_left_right ..
theorem vS {a b:Int} (h:b≠0):(a.fmod b).natAbs < b.natAbs:=by
 by_cases hb:0 < b
 · have h1:=Int.fmod_nonneg_of_pos a hb
   have h2:=Int.fmod_lt_of_pos a hb
   omega
 · have h3:0 < -b:=by omega
   have e:a.fmod b= -((-a).fmod (-b)):=by
    rw [Int.neg_fmod_neg,Int.neg_neg]
   have h1:=Int.fmod_nonneg_of_pos (-a) h3
   have h2:=Int.fmod_lt_of_pos (-a) h3
   omega
noncomputable def dv (t b:Int):Int:=if b < 0 then -(Int.gcd t b:Int) else (Int.gcd t b:Int)
noncomputable def fx (t b:Int):Int:=t.fdiv (dv t b)
noncomputable def fy (t b:Int):Int:=b.fdiv (dv t b)
theorem uk {t b:Int} (h:b≠0):dv t b≠0:=by
 have:0 < Int.gcd t b:=zr t h
 unfold dv
 split<;>omega
theorem um {t b:Int}:(dv t b).natAbs=Int.gcd t b:=by
 unfold dv
 split<;>omega
theorem xU {t b:Int}:dv t b∣t∧dv t b∣b:=by
 have h1:((Int.gcd t b:Nat):Int)∣t:=Int.gcd_dvd_left ..
 have h2:((Int.gcd t b:Nat):Int)∣b:=Am ..
 unfold dv
 split
 · exact ⟨Int.neg_dvd.mpr h1,Int.neg_dvd.mpr h2⟩
 · exact ⟨h1,h2⟩
theorem parts {t b:Int} (h:b≠0):t=dv t b*fx t b∧b=dv t b*fy t b:=by
 obtain ⟨⟨x,hx⟩,⟨y,hy⟩⟩:=xU (t:=t) (b:=b)
 have n:=uk (t:=t) h
 have e1:fx t b=x:=by
  unfold fx
  generalize dv t b=d at*
  rw [hx]
  exact Int.mul_fdiv_cancel_left _ n
 have e2:fy t b=y:=by
  unfold fy
  generalize dv t b=d at*
  rw [hy]
  exact Int.mul_fdiv_cancel_left _ n
 rw [e1,e2]
 exact ⟨hx,hy⟩
theorem ug {t b:Int} (h:b≠0):1≤fy t b:=by
 obtain ⟨_,e⟩:=parts (t:=t) h
 have g:0 < Int.gcd t b:=zr t h
 have n:=uk (t:=t) h
 by_cases q:1≤fy t b
 · exact q
 · exfalso
   have q':fy t b≤0:=by omega
   have d:(b < 0→dv t b < 0)∧(¬b < 0→0 < dv t b):=by
    unfold dv
    constructor
    · intro z;rw [if_pos z];omega
    · intro z;rw [if_neg z];omega
   by_cases z:b < 0
   · have:=Int.mul_nonneg_of_nonpos_of_nonpos (Int.le_of_lt (d.1 z)) q'
     omega
   · have:=Int.mul_nonpos_of_nonneg_of_nonpos (Int.le_of_lt (d.2 z)) q'
     omega
theorem xF {t b:Int} (h:b≠0):Int.gcd (fx t b) (fy t b)=1:=by
 obtain ⟨e1,e2⟩:=parts (t:=t) h
 have g:0 < Int.gcd t b:=zr t h
 have e:Int.gcd t b=(dv t b).natAbs*Int.gcd (fx t b) (fy t b):=by
  have:Int.gcd t b=Int.gcd (dv t b*fx t b) (dv t b*fy t b):=by rw [←e1,←e2]
  rw [this,Int.gcd_mul_left]
 rw [um] at e
 have:=Nat.eq_of_mul_eq_mul_left g (show Int.gcd t b*1=Int.gcd t b*Int.gcd (fx t b) (fy t b) by rw [←e,Nat.mul_one])
 exact this.symm
theorem ni (a b:Int):(a.fdiv b).natAbs≤a.natAbs:=by
 by_cases h:b=0
 · subst h;simp
 · rcases Int.lt_or_gt_of_ne h with hb|hb
   · have h3:0 < -b:=by omega
     have e:a.fdiv b=(-a).fdiv (-b):=by rw [Int.neg_fdiv_neg]
     rw [e,A6 _ (by omega)]
     have:=Int.natAbs_ediv_le_natAbs (-a) (-b)
     omega
   · rw [A6 _ (by omega)]
     exact Int.natAbs_ediv_le_natAbs a b
def fu (x y:Int):Prop:=0 < y∧Int.gcd x y=1
theorem i9 {x y z:Int} (h1:Int.gcd x y=1) (h2:Int.gcd x z=1):Int.gcd x (y*z)=1:=by
 show Nat.gcd x.natAbs (y*z).natAbs=1
 rw [Int.natAbs_mul]
 exact Nat.Coprime.mul_right h1 h2
theorem jr {x y z:Int} (h1:Int.gcd y x=1) (h2:Int.gcd z x=1):Int.gcd (y*z) x=1:=by
 rw [A3]
 exact i9 (by rw [A3];exact h1) (by rw [A3];exact h2)
theorem uw {x x' y:Int} (h:Int.gcd (x'*x) y=1):Int.gcd x' y=1:=by
 have e:Nat.gcd (x'*x).natAbs y.natAbs=1:=h
 rw [Int.natAbs_mul] at e
 exact Nat.Coprime.coprime_mul_right e
theorem eW {x x' y:Int} (h:Int.gcd (x*x') y=1):Int.gcd x' y=1:=by
 rw [Int.mul_comm] at h
 exact uw h
theorem gc {x y y':Int} (h:Int.gcd x (y*y')=1):Int.gcd x y'=1:=by
 rw [A3] at h ⊢
 exact eW h
theorem fv {x y:Int} (h:y≠0):∃x' y':Int,x=(Int.gcd x y:Int)*x'∧y=(Int.gcd x y:Int)*y'∧Int.gcd x' y'=1∧x / (Int.gcd x y:Int)=x'∧y / (Int.gcd x y:Int)=y':=by
 have g:0 < Int.gcd x y:=zr x h
 obtain ⟨x',hx⟩:((Int.gcd x y:Nat):Int)∣x:=Int.gcd_dvd_left ..
 obtain ⟨y',hy⟩:((Int.gcd x y:Nat):Int)∣y:=Am ..
 have n:((Int.gcd x y:Nat):Int)≠0:=by omega
 refine ⟨x',y',hx,hy,?_,?_,?_⟩
 · have e:Int.gcd x y=Int.gcd x y*Int.gcd x' y':=by
    have:Int.gcd x y=Int.gcd ((Int.gcd x y:Int)*x') ((Int.gcd x y:Int)*y'):=by rw [←hx,←hy]
    rw [Int.gcd_mul_left,Int.natAbs_natCast] at this
    exact this
   have:=Nat.eq_of_mul_eq_mul_left g (show Int.gcd x y*1=Int.gcd x y*Int.gcd x' y' by rw [←e,Nat.mul_one])
   exact this.symm
 · generalize ((Int.gcd x y:Nat):Int)=k at*
   rw [hx]
   exact Int.mul_ediv_cancel_left _ n
 · generalize ((Int.gcd x y:Nat):Int)=k at*
   rw [hy]
   exact Int.mul_ediv_cancel_left _ n
theorem dq {k x:Int} (hk:0≤k) (h:0 < k*x):0 < x:=by
 by_cases q:0 < x
 · exact q
 · have:=Int.mul_nonpos_of_nonneg_of_nonpos hk (show x≤0 by omega)
   omega
noncomputable def pT (a b c d:Int):Int:=a*(d / (Int.gcd b d:Int))+c*(b / (Int.gcd b d:Int))
noncomputable def pE (a b c d:Int):Int:=(Int.gcd (pT a b c d) (Int.gcd b d:Int):Int)
noncomputable def pX (a b c d:Int):Int:=pT a b c d / pE a b c d
noncomputable def pY (a b c d:Int):Int:=b / (Int.gcd b d:Int)*(d / pE a b c d)
theorem pf {a b c d:Int} (h1:fu a b) (h2:fu c d):fu (pX a b c d) (pY a b c d)∧pX a b c d*(b*d)=(a*d+c*b)*pY a b c d:=by
 obtain ⟨b0,g1⟩:=h1
 obtain ⟨d0,g2⟩:=h2
 obtain ⟨b',d',eb,ed,g3,qb,qd⟩:=fv (x:=b) (y:=d) (by omega)
 have s0:(0:Int) < (Int.gcd b d:Int):=by
  have:0 < Int.gcd b d:=zr b (by omega)
  omega
 have eT:pT a b c d=a*d'+c*b':=by unfold pT;rw [qb,qd]
 unfold pX pY
 have eE:pE a b c d=(Int.gcd (a*d'+c*b') (Int.gcd b d:Int):Int):=by unfold pE;rw [eT]
 rw [eE,eT,qb]
 generalize ((Int.gcd b d:Nat):Int)=s at*
 obtain ⟨t',s',et,es,g4,qt,qs⟩:=fv (x:=a*d'+c*b') (y:=s) (by omega)
 have e0:(0:Int) < (Int.gcd (a*d'+c*b') s:Int):=by
  have:0 < Int.gcd (a*d'+c*b') s:=zr _ (by omega)
  omega
 have b0':0 < b':=dq (k:=s) (by omega) (by omega)
 have d0':0 < d':=dq (k:=s) (by omega) (by omega)
 have cT1:Int.gcd (a*d'+c*b') b'=1:=by
  have:Int.gcd (a*d'+c*b') b'=Int.gcd (a*d') b':=by
   rw [A3,A3 (a*d')]
   have e:a*d'+c*b'=a*d'+b'*c:=by rw [Int.mul_comm c b']
   rw [e]
   exact Int.gcd_add_mul_left_right ..
  rw [this]
  refine jr ?_ (by rw [A3];exact g3)
  rw [eb] at g1
  exact gc g1
 have cT2:Int.gcd (a*d'+c*b') d'=1:=by
  have:Int.gcd (a*d'+c*b') d'=Int.gcd (c*b') d':=by
   rw [A3,A3 (c*b')]
   have e:a*d'+c*b'=c*b'+d'*a:=by rw [Int.mul_comm a d',Int.add_comm]
   rw [e]
   exact Int.gcd_add_mul_left_right ..
  rw [this]
  refine jr ?_ g3
  rw [ed] at g2
  exact gc g2
 rw [qt]
 generalize ((Int.gcd (a*d'+c*b') s:Nat):Int)=e at*
 have s0':0 < s':=dq (k:=e) (by omega) (by omega)
 have qd2:d / e=d'*s':=by
  rw [ed,es,Int.mul_assoc,Int.mul_ediv_cancel_left _ (by omega),Int.mul_comm]
 rw [qd2]
 generalize ht:a*d'+c*b'=t at*
 refine ⟨⟨Int.mul_pos b0' (Int.mul_pos d0' s0'),?_⟩,?_⟩
 · rw [et] at cT1 cT2
   exact i9 (eW cT1) (i9 (eW cT2) g4)
 · have e1:a*d+c*b=s*t:=by
    rw [ed,eb,←ht,Int.mul_add]
    simp only [Int.mul_left_comm]
   rw [e1,et,eb,ed]
   have e2:s*(e*t')*(b'*(d'*s'))=s*t'*b'*d'*(e*s'):=by
    simp only [Int.mul_assoc,Int.mul_left_comm,Int.mul_comm]
   rw [e2,←es]
   simp only [Int.mul_assoc,Int.mul_left_comm,Int.mul_comm]
noncomputable def tX (a b c d:Int):Int:=a / (Int.gcd a d:Int)*(c / (Int.gcd c b:Int))
noncomputable def tY (a b c d:Int):Int:=b / (Int.gcd c b:Int)*(d / (Int.gcd a d:Int))
theorem lR {a b c d:Int} (h1:fu a b) (h2:fu c d):fu (tX a b c d) (tY a b c d)∧tX a b c d*(b*d)=a*c*tY a b c d:=by
 obtain ⟨b0,g1⟩:=h1
 obtain ⟨d0,g2⟩:=h2
 obtain ⟨a',d',ea,ed,g3,qa,qd⟩:=fv (x:=a) (y:=d) (by omega)
 obtain ⟨c',b',ec,eb,g4,qc,qb⟩:=fv (x:=c) (y:=b) (by omega)
 have f0:(0:Int)≤(Int.gcd a d:Int):=by omega
 have k0:(0:Int)≤(Int.gcd c b:Int):=by omega
 unfold tX tY
 rw [qa,qd,qc,qb]
 generalize ((Int.gcd a d:Nat):Int)=f at*
 generalize ((Int.gcd c b:Nat):Int)=k at*
 have b0':0 < b':=dq k0 (by omega)
 have d0':0 < d':=dq f0 (by omega)
 subst ea ed ec eb
 have h1:Int.gcd a' b'=1:=eW (gc g1)
 have h2:Int.gcd c' d'=1:=eW (gc g2)
 refine ⟨⟨Int.mul_pos b0' d0',jr (i9 h1 g3) (i9 g4 h2)⟩,?_⟩
 simp only [Int.mul_assoc,Int.mul_left_comm,Int.mul_comm]
theorem dr {t b:Int} (h:b≠0):fu (fx t b) (fy t b):=⟨by have:=ug (t:=t) h;omega,xF h⟩
theorem js {c d:Int} (h:fu c d):fu (-c) d:=⟨h.1,by rw [A3,Int.gcd_neg,A3];exact h.2⟩
theorem j1 (a b:Int):(a / b).natAbs≤a.natAbs:=Int.natAbs_ediv_le_natAbs a b
end Mth
namespace L2
section
open PySem
variable {prog:Program} {w:World} {A:Around} {R:Result→Shared→Prop} {s:Shared}
theorem jt {elt target iter:Expr} {ifs:List Expr} {scope:Scope} {pos:Pos} {it acc:Value} {env:Env} (I:Nat→Shared→Prop)
 (turn:∀n s,I n s→wpAny (model prog w) A (pyNext it) (fun r s₁=>match r with
  |none=>R (.ok .next) s₁
  |some v=>wpAny (model prog w) A (letOwnedTupleGo target it v) (fun _ s₁'=>wpAny (model prog w) A (assign target env v) (fun _ s₂=>
   wpAny (model prog w) A (forIn ifs true fun c r=>if r=true then do let ok←isTrue c env (eval c env);pure (ForInStep.yield ok) else pure (ForInStep.yield r)) (fun ok s₃=>
    if ok=true then wpAny (model prog w) A (eval elt env) (fun x s₄=>
     wpAny (model prog w) A (call (.builtin "list.append") [acc,x]) (fun _ s₅=>∃m,m < n∧I m s₅) (fun _ _=>False) s₄) (fun _ _=>False) s₃
    else∃m,m < n∧I m s₃) (fun _ _=>False) s₂) (fun _ _=>False) s₁') (fun _ _=>False) s₁) (fun _ _=>False) s)
 (n:Nat) (h:I n s):codeAny (model prog w) A (.compLoop (.ListComp elt [⟨target,iter,ifs,0⟩] scope pos) 0 it acc env) R s:=by
 refine codeAny_loop rfl I (fun n s hI=> ?_) n h
 show wpAny _ A ((compTurn (.ListComp elt [⟨target,iter,ifs,0⟩] scope pos) 0 it acc env).onRaise (fun x=>do noteFrame x env;theTreesLotGoes x)) _ _ s
 refine wpAny_noted ?_
 rw [compTurn_list]
 refine wpAny_bind (wpAny_standAt (wpAny_bind (wpAny_mono (turn n s hI) (fun r s₁ h₁=> ?_) fun _ _ z=>z.elim)))
 cases r with
 |none=>exact wpAny_pure h₁
 |some v=>
  refine wpAny_bind (wpAny_mono h₁ (fun _ s₁' h₁'=> ?_) fun _ _ z=>z.elim)
  refine wpAny_bind (wpAny_mono h₁' (fun _ s₂ h₂=>wpAny_bind (wpAny_mono h₂ (fun ok s₃ h₃=> ?_) fun _ _ z=>z.elim)) fun _ _ z=>z.elim)
  cases ok with
  |false=>exact wpAny_pure ⟨rfl,h₃⟩
  |true=>
   exact wpAny_bind (wpAny_bind (wpAny_mono h₃ (fun x s₄ h₄=>wpAny_bind (wpAny_mono h₄ (fun _ s₅ h₅=>wpAny_pure (wpAny_pure ⟨rfl,h₅⟩)) fun _ _ z=>z.elim)) fun _ _ z=>z.elim))
noncomputable def dH (names:List (Str×NameKind)) (cells:List (Str×Addr)):List (Str×Addr)→List (Str×Addr):=match names with
 | []=>fun cs=>cs
 |(n,k)::r=>fun cs=>dH r cells (if (k== .free)=true then (n,(cells.lookup n).getD 0)::cs else cs)
noncomputable def cX (names:List (Str×NameKind)) (cells:List (Str×Addr)):Bool:=names.all fun y=> !(y.2== .free) ||(cells.lookup y.1).isSome
theorem lD (env:Env):∀(names:List (Str×NameKind)) (cs:List (Str×Addr)),cX names env.cells=true→
 (forIn names cs fun (x:Str×NameKind) (r:List (Str×Addr))=>match x with
  |(name,kind)=>if (kind==NameKind.free)=true then do let __do_lift←cellOf env name;pure (ForInStep.yield ((name,__do_lift)::r)) else pure (ForInStep.yield r):Sem (List (Str×Addr)))=pure (dH names env.cells cs)
 | [],cs,_=>rfl
 |(n,k)::r,cs,h=>by
  unfold cX at h
  rw [List.all_cons,zS] at h
  rw [List.forIn_cons]
  unfold dH
  by_cases hk:(k==NameKind.free)=true
  · rw [if_pos hk]
    dsimp only
    rw [if_pos hk]
    have h1:(env.cells.lookup n).isSome=true:=by
     have:=h.1
     rw [hk] at this
     simpa using this
    obtain ⟨c,hc⟩:=Option.isSome_iff_exists.mp h1
    have e:cellOf env n=pure c:=by unfold cellOf;rw [hc]
    rw [e,hc]
    exact lD env r _ h.2
  · rw [if_neg hk]
    dsimp only
    rw [if_neg hk]
    exact lD env r _ h.2
theorem pS {scope:Scope} {env:Env} (h:cX scope.names env.cells=true):closureFor scope env=pure (dH scope.names env.cells []):=by
 unfold closureFor
 have:=lD env scope.names [] h
 simp only [bind_pure]
 exact this
theorem nE {cells:List (Str×Addr)}:∀(names:List (Str×NameKind)) (cs:List (Str×Addr)),cX names cells=true→(∀y c,cs.lookup y=some c→cells.lookup y=some c)→∀y c,(dH names cells cs).lookup y=some c→cells.lookup y=some c
 | [],cs,_,hc,y,c,e=>hc y c e
 |(n,k)::r,cs,h,hc,y,c,e=>by
  unfold cX at h
  rw [List.all_cons,zS] at h
  refine nE r _ h.2 (fun z d q=> ?_) y c e
  by_cases hk:(k==NameKind.free)=true
  · rw [if_pos hk,zR] at q
    cases zn:(z==n) with
    |true=>
     rw [zn] at q
     have h1:(cells.lookup n).isSome=true:=by
      have:=h.1
      rw [hk] at this
      simpa using this
     obtain ⟨c',hc'⟩:=Option.isSome_iff_exists.mp h1
     have zn':z=n:=by simpa using zn
     rw [zn',hc']
     have q':some ((cells.lookup n).getD 0)=some d:=q
     rw [hc'] at q'
     exact q'
    |false=>
     rw [zn] at q
     exact hc z d q
  · rw [if_neg hk] at q
    exact hc z d q
theorem jX {cells:List (Str×Addr)}:∀(names:List (Str×NameKind)) (cs:List (Str×Addr)) (y:Str),(∃c,cs.lookup y=some c)→∃c,(dH names cells cs).lookup y=some c
 | [],cs,y,h=>h
 |(n,k)::r,cs,y,h=>by
  refine jX r _ y ?_
  by_cases hk:(k==NameKind.free)=true
  · rw [if_pos hk,zR]
    cases zn:(y==n) with
    |true=>exact ⟨_,rfl⟩
    |false=>exact h
  · rw [if_neg hk]
    exact h
theorem jx {cells:List (Str×Addr)}:∀(names:List (Str×NameKind)) (cs:List (Str×Addr)) (y:Str),(y,NameKind.free)∈names→∃c,(dH names cells cs).lookup y=some c
 | [],_,y,h=>by cases h
 |(n,k)::r,cs,y,h=>by
  rcases zc.mp h with e|h
  · obtain ⟨e1,e2⟩:=Prod.mk.inj e
    subst e1
    subst e2
    unfold dH
    refine jX r _ y ?_
    rw [if_pos (show (NameKind.free==NameKind.free)=true from rfl),zR]
    have:(y==y)=true:=by simp
    rw [this]
    exact ⟨_,rfl⟩
  · exact jx r _ y h
end
open PySem PySem.Spec PyProof.Rows
noncomputable abbrev XC (X:Cx) (scope:Scope) (NC:List Str) (C:Addr) (s:Shared) (H:Hp) (fp:List Addr) (pn:List (Addr×Obj)):Cx:=
 {X with N:=NC,s₀:=s,H₀:=H,env:=compEnvC scope (dH scope.names X.env.cells []) C X.env,outer:=X.stack,stack:=X.stack,ex:=fp,fn:=fun _=>false,pn:=pn,xe:=fun _ _=>False}
noncomputable def subS (mp:List (Option Nat)) (σ:St):St:=mp.map fun o=>match o with
 |some i=>(σ[i]?).getD none
 |none=>none
noncomputable def mw (N NC:List Str) (mp:List (Option Nat)) (names outer:List (Str×NameKind)):Bool:=(List.range mp.length).all fun j=>match mp[j]? with
 |some (some i)=>(match NC[j]?,N[i]? with
  |some y,some z=>y==z&&names.lookup y==some NameKind.free&& (outer.lookup y==some NameKind.cell ||outer.lookup y==some NameKind.free)
  |_,_=>false)
 |_=>true
theorem tF {N NC:List Str} {mp:List (Option Nat)} {names outer:List (Str×NameKind)} (h:mw N NC mp names outer=true) {j i:Nat} (e:mp[j]?=some (some i)):∃y,NC[j]?=some y∧N[i]?=some y∧names.lookup y=some .free∧(outer.lookup y=some .cell∨outer.lookup y=some .free):=by
 unfold mw at h
 rw [Ag] at h
 have hj:j < mp.length:=(zd.mp e).1
 have:=h j (zN.mpr hj)
 rw [e] at this
 dsimp only at this
 split at this
 · rename_i y z e1 e2
   simp only [zS,Bool.or_eq_true,beq_iff_eq] at this
   obtain ⟨⟨rfl,h2⟩,h3⟩:=this
   exact ⟨y,e1,e2,h2,h3⟩
 · cases this
def PTs (X:Cx) (ifs:List Expr) (t:TT):Prop:=
 ∀(pins:List (Addr×Obj)) (s:Shared) (σ:St) (H:Hp) (Q:Bool→Hp→Prop),Inv X pins σ H s→t σ H Q→
  wpAny (model X.prog X.w) X.A (forIn ifs true fun c r=>if r=true then do let ok←isTrue c X.env (eval c X.env);pure (ForInStep.yield ok) else pure (ForInStep.yield r)) (TP X pins σ Q) X.xe s
def cA:TT:=fun _ H Q=>Q true H
theorem bw {X:Cx}:PTs X [] cA:=fun _ _ σ H Q I h=>wpAny_tests_nil ⟨H,I,h⟩
theorem vb {X:Cx} {c:Expr} {t:TT} (hc:PT X c t):PTs X [c] t:=fun pins s σ H Q I h=>wpAny_tests_one (hc pins s σ H Q I h)
def Ext (σ σ':St):Prop:=∀(j:Nat) (v:V),σ[j]?=some (some v)→σ'[j]?=some (some v)
theorem ext1 {o:Option V} {r:St}:Ext (none::r) (o::r)
 |0,v,e=>by cases (zu (show some (none:Option V)=some (some v) from e))
 |j+1,v,e=>e
theorem ext2 {o p:Option V} {r:St}:Ext (none::none::r) (o::p::r)
 |0,v,e=>by cases (zu (show some (none:Option V)=some (some v) from e))
 |1,v,e=>by cases (zu (show some (none:Option V)=some (some v) from e))
 |j+2,v,e=>e
def db (mp:List (Option Nat)) (wi:TI) (g:TG) (tc:TT) (te:TE):TE:=fun σ H Q=>wi σ H fun J H1=>∀D,H1 D=none→
 ∃W:Nat→Nat→List V→Hp→Prop,(∃m,W 0 m [] (upd H1 D (.lst [])))∧∀i m acc H2,W i m acc H2→
  (J.stop i H2∧Q (.ref D) H2)∨
  (J.go i H2∧∀x H3,J.yld i H2 x H3→g x (subS mp σ) H3 fun σ4 H4=>Ext (subS mp σ) σ4∧tc σ4 H4 fun b H5=>if b=true then te σ4 H5 fun v H6=>H6 D=some (.lst acc)∧acc.length < sizeLine∧∃m',m' < m∧W (i+1) m' (acc++ [v]) (upd H6 D (.lst (acc++ [v])))
   else∃m',m' < m∧W (i+1) m' acc H5)
open PySem PySem.Spec PyProof.Rows
theorem dc {env:Env}:∀ {names:List (Str×NameKind)} {x:Str},names.lookup x=some .free→
 (names.map fun (n,k)=>if (k==NameKind.free&&env.scope.kind== .function&&env.kindOf n==some .cell) then (n,NameKind.cell) else (n,k)).lookup x=some .cell∨
 (names.map fun (n,k)=>if (k==NameKind.free&&env.scope.kind== .function&&env.kindOf n==some .cell) then (n,NameKind.cell) else (n,k)).lookup x=some .free
 | [],_,h=>by simp at h
 |(n,k)::r,x,h=>by
  have ih:= @dc env r x
  show List.lookup x ((if (k==NameKind.free&&env.scope.kind== .function&&env.kindOf n==some .cell)=true then (n,NameKind.cell) else (n,k))::_)=_∨List.lookup x ((if (k==NameKind.free&&env.scope.kind== .function&&env.kindOf n==some .cell)=true then (n,NameKind.cell) else (n,k))::_)=_
  cases hx:x==n with
  |true=>
   simp only [zR,hx] at h
   cases h
   by_cases hc:(NameKind.free==NameKind.free&&env.scope.kind== .function&&env.kindOf n==some .cell)=true
   · rw [if_pos hc]
     left
     simp only [zR,hx]
   · rw [if_neg hc]
     right
     simp only [zR,hx]
  |false=>
   simp only [zR,hx] at h
   by_cases hc:(k==NameKind.free&&env.scope.kind== .function&&env.kindOf n==some .cell)=true
   · rw [if_pos hc]
     simp only [zR,hx]
     exact ih h
   · rw [if_neg hc]
     simp only [zR,hx]
     exact ih h
theorem iL {env:Env}:∀ {names:List (Str×NameKind)} {x:Str},(∀y∈names,y.2≠ .cell)→
 ((names.map fun (n,k)=>if (k==NameKind.free&&env.scope.kind== .function&&env.kindOf n==some .cell) then (n,NameKind.cell) else (n,k)).lookup x=some .cell∨
 (names.map fun (n,k)=>if (k==NameKind.free&&env.scope.kind== .function&&env.kindOf n==some .cell) then (n,NameKind.cell) else (n,k)).lookup x=some .free)→(x,NameKind.free)∈names
 | [],_,_,h=>by simp at h
 |(n,k)::r,x,hn,h=>by
  have ih:= @iL env r x (fun y hy=>hn y (z6 _ hy))
  have nk:k≠ .cell:=hn (n,k) yY
  rw [zo] at h
  dsimp only at h
  cases hx:x==n with
  |true=>
   have xn:x=n:=by simpa using hx
   subst xn
   by_cases hc:(k==NameKind.free&&env.scope.kind== .function&&env.kindOf x==some .cell)=true
   · have:k= .free:=by
      have:=hc
      rw [zS,zS] at this
      simpa using this.1.1
     rw [this]
     exact yY
   · rw [if_neg hc,zR,hx] at h
     rcases h with h|h
     · exact absurd (zu h) nk
     · cases (zu h)
       exact yY
  |false=>
   refine z6 _ (ih ?_)
   by_cases hc:(k==NameKind.free&&env.scope.kind== .function&&env.kindOf n==some .cell)=true
   · rw [if_pos hc,zR,hx] at h
     exact h
   · rw [if_neg hc,zR,hx] at h
     exact h
section
variable {X:Cx} {pins:List (Addr×Obj)} {σ:St} {H:Hp} {s:Shared}
theorem Inv.block {scope:Scope} {NC:List Str} {mp:List (Option Nat)} {fp:List Addr} {h1:Heap} {tk:Nat} {m:Str→Option Value} (I:Inv X pins σ H s) (hf:∀b∈fp,FpOk X pins H b) (hlt:∀b∈fp,b < s.heap.objs.size) (hk:scope.kind= .function) (hnc:∀y∈scope.names,y.2≠ .cell)
 (hc:cX scope.names X.env.cells=true) (hl:mp.length=NC.length) (hm:mw X.N NC mp scope.names X.env.scope.names=true) (kp:∀b o,s.heap.get? b=some o→h1.get? b=some o) (hn:h1.Ns s.heap.objs.size m):
 Inv (XC X scope NC s.heap.objs.size s H fp (X.pn++pins)) [] (subS mp σ) H {s with heap:=h1,toks:=tk}:=by
 have sub:=nE (cells:=X.env.cells) scope.names [] hc (fun y c e=>by cases e)
 have lt:∀b o,s.heap.get? b=some o→b≠s.heap.objs.size:=fun b o e=>zg (Heap.lt_size e)
 have nst:∀b,b≠X.env.locals→b∉X.fs→b∉frs X.stack:=fun b h1 h2 z=>by
  rcases zc.mp (I.stkSub b z) with e|e
  · exact h1 e
  · exact h2 e
 refine ⟨⟨I.ok.mod,hk,I.ok.glob,I.ok.blt,yZ _,fun x y c e1 e2=>I.ok.inj x y c (sub x c e1) (sub y c e2),fun x hx=> ?_,(fun _ _ z=>by cases z),I.ok.hd,I.ok.frames, .inl rfl,fun b hb=> ?_,fun b o e=> ?_,zJ I.ok.bsz I.sz,fun b o e hb=> ?_,fun b hb=> ?_,I.stack,I.stkFree⟩,
  rfl,I.bare,Un.kept kp,⟨m,hn,fun j y v e1 e2 e3=> ?_⟩,fun y c e=> ?_,I.hok.fresh (yZ _),fun y c e=>I.freeC y c (sub y c e),fun p hp=> ?_,I.hok.kept kp,?_⟩
 · exact jx scope.names [] x (iL hnc hx)
 · obtain ⟨f0,f1,f2,f3,f4,f5⟩:=hf b hb
   exact ⟨zg (hlt b hb),fun x c e=>f4 x c (sub x c e)⟩
 · obtain ⟨h1,h2⟩:=I.bs b o e
   exact ⟨h1,h2⟩
 · obtain ⟨f0,f1,f2,f3,f4,f5⟩:=hf b hb
   rcases f3 with z|z
   · exact I.ok.noex b o e z
   · exact absurd (zl (Heap.lt_size e) (zJ I.ok.bsz z)) (Ae _)
 · obtain ⟨f0,f1,f2,f3,f4,f5⟩:=hf b hb
   exact nst b f1 f2
 ·
  unfold subS at e2
  rw [zF] at e2
  cases q:mp[j]? with
  |none=>rw [q] at e2;cases e2
  |some o=>
   rw [q] at e2
   cases o with
   |none=>cases e2
   |some i=>
    have e2':some ((σ[i]?).getD none)=some (some v):=e2
    obtain ⟨z,y1,y2,y3,y4⟩:=tF hm q
    have yz:y=z:=zu ((show NC[j]?=some y from e1).symm.trans y1)
    subst yz
    have e4:σ[i]?=some (some v):=by
     cases w:σ[i]? with
     |none=>rw [w] at e2';cases e2'
     |some t=>rw [w] at e2';exact e2'
    obtain ⟨m0,hn0,hl0⟩:=I.loc
    obtain ⟨c,hcl⟩:=jx (cells:=X.env.cells) scope.names [] y (PySem.mem_of_lookup y3)
    have hcx:=sub y c hcl
    have vis:Vis X.env.scope y:= .inr y4
    obtain ⟨u,ru,lk⟩:=hl0 i y v y2 e4 vis
    refine ⟨u,ru, .inr ⟨dc y3,c,hcl,?_⟩⟩
    rcases lk with ⟨k1,_⟩|⟨_,c',k2,k3⟩
    · have k1':X.env.scope.names.lookup y=some .local:=k1
      rcases y4 with y4|y4<;>(rw [y4] at k1';cases k1')
    · rw [hcx] at k2
      cases k2
      obtain ⟨oc,q1,q2⟩:=k3
      exact ⟨oc,kp _ _ q1,q2⟩
 · obtain ⟨v,oc,q1,q2⟩:=I.cell y c (sub y c e)
   exact ⟨v,oc,kp _ _ q1,q2⟩
 · have hp':p∈X.pn++pins:=by simpa using hp
   obtain ⟨q1,q2,q3,q4,q5⟩:=I.pin p hp'
   exact ⟨kp _ _ q1,q2,lt _ _ q1,nst _ q3 q4,q5⟩
 · show (subS mp σ).length=NC.length
   unfold subS
   rw [yW,hl]
variable {elt target iter:Expr} {ifs:List Expr} {scope:Scope} {NC:List Str} {mp:List (Option Nat)} {pos:Pos} {wi:TI} {g:TG} {tc:TT} {te:TE}
theorem bZ (hcalm:X.calm=true) (hi:PI X target iter wi) (hg:∀C s H fp pn,PG (XC X scope NC C s H fp pn) target g) (ht:∀C s H fp pn,PTs (XC X scope NC C s H fp pn) ifs tc) (he:∀C s H fp pn,PE (XC X scope NC C s H fp pn) elt te)
 (hl:mp.length=NC.length:=by rfl) (hm:mw X.N NC mp scope.names X.env.scope.names=true:=by rfl) (hc:cX scope.names X.env.cells=true:=by rfl) (hk:scope.kind= .function:=by rfl)
 (hnc:∀y∈scope.names,y.2≠ .cell:=by decide +kernel) (hnm:∀y∈scope.names,y.2= .local→scope.names.lookup y.1=some .local:=by decide +kernel) (hs:∀x,foldedSetIterable iter X.env x=pure x:=by intro _;rfl):
 PE X (.ListComp elt [⟨target,iter,ifs,0⟩] scope pos) (db mp wi g tc te):=by
 intro pins s σ H Q I h
 rw [eval_ListComp]
 refine wpAny_comprehension_free (use:=none) rfl hs (pS hc) hk hnm (thn (hi pins s σ H _ I h) fun v s1 h1=>thn h1 fun itv s2 h2=> ?_)
 obtain ⟨it,fp,tn,J,H2,e,I2,T,st2,f2,W⟩:=h2
 subst e
 refine wpAny_newObj_type ?_ (by show 0≤sizeLine;decide)
 have nD:H2 s2.heap.objs.size=none:=I2.hok.fresh (yZ _)
 have I3:Inv X pins σ (upd H2 s2.heap.objs.size (.lst [])) {s2 with heap:=s2.heap.push {cls:= .type "list",data:= .seq ([]:List Value).toArray}}:=
  I2.laid (t':=s2.toks) (fun b u e=>Heap.get?_push_of_some _ e) (yZ _) ⟨by show 0≤sizeLine;decide,[],0, .nil,Heap.get?_push_size _ rfl⟩
 obtain ⟨W,⟨m0,w0⟩,turn⟩:=W _ nD
 have lt2:∀b∈fp,b < s2.heap.objs.size:=fun b hb=>by
  obtain ⟨o,e,_⟩:=T.obj 0 _ st2 b hb
  exact Heap.lt_size e
 have nDf:∀b∈fp,b≠s2.heap.objs.size:=fun b hb=>zg (lt2 b hb)
 have f3:∀b∈fp,FpOk X pins (upd H2 s2.heap.objs.size (.lst [])) b:=fun b hb=>by
  obtain ⟨g0,g1⟩:=f2 b hb
  exact ⟨by rw [aG (nDf b hb)];exact g0,g1⟩
 have st3:tn 0 (s2.heap.push {cls:= .type "list",data:= .seq ([]:List Value).toArray}):=T.keep 0 _ _ st2 fun b _ o e=>Heap.get?_push_of_some _ e
 have lt3:∀b∈fp,b < (s2.heap.push {cls:= .type "list",data:= .seq ([]:List Value).toArray}).objs.size:=fun b hb=>by
  rw [Heap.size_push]
  exact Al (lt2 b hb)
 generalize hD:s2.heap.objs.size=D at*
 generalize hs3:({s2 with heap:=s2.heap.push {cls:= .type "list",data:= .seq ([]:List Value).toArray}}:Shared)=s3 at*
 have hh3:s3.heap=s2.heap.push {cls:= .type "list",data:= .seq ([]:List Value).toArray}:=by rw [←hs3]
 rw [←hh3] at st3 lt3
 generalize hH3:upd H2 D (.lst [])=H3 at*
 refine wpAny_newFunctionEnv (around:=some X.env) hnc (by intro y hy;cases hy) (fun h4 hn4 hsb4=> ?_) hk
 have kp4:∀b o,s3.heap.get? b=some o→h4.get? b=some o:=fun b o e=>hsb4.extBut b o (zg (Heap.lt_size e)) (Heap.get?_push_of_some _ e)
 have I4:=I3.block (tk:=s3.toks+([]:List (Str×Value)).length) f3 lt3 hk hnc hc hl hm kp4 hn4
 have st4:tn 0 h4:=T.keep 0 _ _ st3 fun b _ o e=>kp4 b o e
 have fin:∀(s5:Shared) (σ5:St) (H5:Hp),Inv (XC X scope NC s3.heap.objs.size s3 H3 fp (X.pn++pins)) [] σ5 H5 s5→Q (.ref D) H5→compPost (model X.prog X.w) X.A X.xe none (EP X pins σ Q) (.ref D) s3.heap.objs.size (.ok .next) s5:=by
  intro s5 σ5 H5 I5 q5
  obtain ⟨m5,hn5,_⟩:=id I5.loc
  refine ⟨m5,hn5,fun h6 sb6=>⟨.ref D,H5,?_,rfl,q5⟩⟩
  have kp6:∀b o,b≠s3.heap.objs.size→s5.heap.get? b=some o→h6.get? b=some o:=fun b o hb e=>sb6.extBut b o hb e
  have nC:∀b o,s3.heap.get? b=some o→b≠s3.heap.objs.size:=fun b o e=>zg (Heap.lt_size e)
  have un:Un (frs X.stack) fp H3 H5 s3.heap s5.heap:=I5.base
  have hfree:H5 s3.heap.objs.size=none:=I5.free
  refine I3.call' (s':= {s5 with heap:=h6}) (ch:=fp) I5.os ⟨fun b o e n hb hx=>kp6 b o (nC b o e) (un.keep b o e n hb hx),fun b o e n hb hx=> ?_,un.free,fun b o e hx=> ?_,un.tups,un.frzs,un.tbls⟩ ?_ I5.bare (fun b hb=> ?_)
  · obtain ⟨sl,e1⟩:=un.slot b o e n hb hx
    exact ⟨sl,kp6 b _ (nC b o e) e1⟩
  · obtain ⟨o',e1⟩:=un.there b o e hx
    exact ⟨o',kp6 b o' (nC b o e) e1⟩
  · intro b o e
    have nb:b≠s3.heap.objs.size:=fun z=>by rw [z,hfree] at e;cases e
    refine (I5.hok b o e).stay (fun c v hc' r=>kp6 c v ?_ r) (fun _ r=>r) fun _ _ r=>r
    rcases hc' with z|z
    · rw [z];exact nb
    · intro y
      rw [y,hfree] at z
      cases z
  · obtain ⟨g0,g1,g2,g3,g4,g5⟩:=f3 b hb
    exact ⟨g3,g1,g4,g5⟩
 have loop:codeAny (model X.prog X.w) X.A (.compLoop (.ListComp elt [⟨target,iter,ifs,0⟩] scope pos) 0 (.ref it) (.ref D) (compEnvC scope (dH scope.names X.env.cells []) s3.heap.objs.size X.env)) (compPost (model X.prog X.w) X.A X.xe none (EP X pins σ Q) (.ref D) s3.heap.objs.size)
  {s3 with heap:=h4,toks:=s3.toks+([]:List (Str×Value)).length}:=by
  refine jt (fun n s'=>∃i acc σ' H',Inv (XC X scope NC s3.heap.objs.size s3 H3 fp (X.pn++pins)) [] σ' H' s'∧Ext (subS mp σ) σ'∧tn i s'.heap∧(∀b∈fp,H' b=none)∧W i n acc H') ?_ m0
   ⟨0,[],subS mp σ,H3,I4,fun _ _ e=>e,st4,fun b hb=>(f3 b hb).1,w0⟩
  rintro n s5 ⟨i,acc,σ5,H5,I5,hσ,st5,fr5,w5⟩
  have I5':Inv (XC X scope NC s3.heap.objs.size s3 H3 fp (X.pn++pins)) [] (subS mp σ) H5 s5:=I5.weak (by rw [I5.len];unfold subS;rw [yW];exact hl) hσ
  have fpk:∀ {H':Hp},(∀b∈fp,H' b=none)→∀b∈fp,FpOk (XC X scope NC s3.heap.objs.size s3 H3 fp (X.pn++pins)) [] H' b:=fun hn b hb=>by
   obtain ⟨g0,g1,g2,g3,g4,g5⟩:=f3 b hb
   refine ⟨hn b hb,zg (lt3 b hb),?_, .inl hb,(I4.ok.exf b hb).2,fun p hp=>g5 p (by simpa using hp)⟩
   exact I4.ok.exfs b hb
  rcases turn i n acc H5 w5 with ⟨stop,q⟩|⟨go,step⟩
  · refine thn (T.done (XC X scope NC s3.heap.objs.size s3 H3 fp (X.pn++pins)) rfl rfl rfl hcalm i [] s5 _ H5 (fun _ _=>False) I5' (fpk fr5) st5 stop) fun r s6 ⟨hr,I6⟩=> ?_
    subst hr
    exact fin s6 _ H5 I6 q
  · refine thn (T.item (XC X scope NC s3.heap.objs.size s3 H3 fp (X.pn++pins)) rfl rfl rfl hcalm i [] s5 _ H5 (fun _ _=>False) I5' (fpk fr5) st5 go) fun r s6 ⟨u,hr,h6⟩=> ?_
    subst hr
    refine thn h6 fun _ s7 ⟨x,H7,I7,r7,y7,st7,fr7⟩=> ?_
    have I7':=I7.pinned (fpk fr7) (T.obj _ _ st7)
    refine thn (hg _ _ _ _ _ _ s7 _ H7 x u _ I7' r7 (step x H7 y7)) fun _ s8 ⟨σ8,H8,I8,ext8,q8⟩=> ?_
    refine thn (ht _ _ _ _ _ _ s8 σ8 H8 _ I8 q8) fun ok s9 ⟨H9,I9,q9⟩=> ?_
    have again:∀ {σ':St} {H':Hp} {s':Shared} {acc':List V} {m':Nat},Inv (XC X scope NC s3.heap.objs.size s3 H3 fp (X.pn++pins)) ([]++iD fp s7.heap) σ' H' s'→Ext (subS mp σ) σ'→m' < n→W (i+1) m' acc' H'→
     ∃m,m < n∧∃i acc σ' H',Inv (XC X scope NC s3.heap.objs.size s3 H3 fp (X.pn++pins)) [] σ' H' s'∧Ext (subS mp σ) σ'∧tn i s'.heap∧(∀b∈fp,H' b=none)∧W i m acc H':=by
     intro σ' H' s' acc' m' I' hσ' hm' w'
     refine ⟨m',hm',i+1,acc',σ',H',I'.unpinned,hσ',T.keep _ _ _ st7 fun b hb o e=>(I'.pin (b,o) (zp _ (zp _ (cS hb e)))).1,fun b hb=> ?_,w'⟩
     obtain ⟨o,e,d⟩:=T.obj _ _ st7 b hb
     exact (I'.pin (b,o) (zp _ (zp _ (cS hb e)))).2.1
    cases ok with
    |false=>
     rw [if_neg zj] at q9
     rw [if_neg zj]
     obtain ⟨m',hm',w'⟩:=q9
     exact again I9 ext8 hm' w'
    |true=>
     rw [if_pos rfl] at q9
     rw [if_pos rfl]
     refine thn (he _ _ _ _ _ _ s9 σ8 H9 _ I9 q9) fun v s10 ⟨y,H10,I10,r10,hD10,hz,m',hm',w'⟩=> ?_
     refine thn (eU (X:=XC X scope NC s3.heap.objs.size s3 H3 fp (X.pn++pins)) _ s10 σ8 H10 (.ref D) [y] (.ref D) [v] (fun _ H'=>H'=upd H10 D (.lst (acc++ [y]))) I10 rfl (.cons r10 .nil) ⟨D,acc,y,rfl,rfl,hD10,hz,rfl⟩) fun _ s11 ⟨_,H11,I11,_,e11⟩=> ?_
     subst e11
     exact again I11 ext8 hm' w'
 exact codeAny_compStart_list loop (T.self _ 0 _ _ _ st4 loop)
end
open PySem PySem.Spec PyProof.Rows
section
variable {X:Cx} {pins:List (Addr×Obj)} {σ:St} {H:Hp} {s:Shared}
theorem qe {h h':Heap} {a b:Addr} {m:Str→Option Value} (hn:h.Ns a m) (sb:Heap.SameBut b h h') (ne:a≠b):h'.Ns a m:=by
 obtain ⟨o,es,ep,ho,r⟩:=hn
 exact ⟨o,es,ep,(sb.2 a ne).trans ho,r⟩
variable {elt target iter:Expr} {ifs:List Expr} {scope:Scope} {NC:List Str} {mp:List (Option Nat)} {pos spos:Pos} {wi:TI} {g:TG} {tc:TT} {te:TE} {i:Nat} {x:Str} {px:Pos}
theorem l5 (hcalm:X.calm=true) (hN:X.N.Nodup) (hix:X.N[i]?=some x) (hx:X.env.scope.names.lookup x=some .local) (hsw:swapsWith (.ListComp elt [⟨target,iter,ifs,0⟩] scope pos) (some (.Name x px)) spos.line X.env=pure true)
 (hi:PI X target iter wi) (hg:∀C s H fp pn,PG (XC X scope NC C s H fp pn) target g) (ht:∀C s H fp pn,PTs (XC X scope NC C s H fp pn) ifs tc) (he:∀C s H fp pn,PE (XC X scope NC C s H fp pn) elt te)
 (hl:mp.length=NC.length:=by rfl) (hm:mw X.N NC mp scope.names X.env.scope.names=true:=by rfl) (hc:cX scope.names X.env.cells=true:=by rfl) (hk:scope.kind= .function:=by rfl)
 (hnc:∀y∈scope.names,y.2≠ .cell:=by decide +kernel) (hnm:∀y∈scope.names,y.2= .local→scope.names.lookup y.1=some .local:=by decide +kernel) (hs:∀x,foldedSetIterable iter X.env x=pure x:=by intro _;rfl):
 PS X (.Assign [.Name x px] (.ListComp elt [⟨target,iter,ifs,0⟩] scope pos) spos) (tAsg (db mp wi g tc te) (aV i)):=by
 intro pins s σ H Z I h
 rw [exec_Assign_Name_used _ _ _ _ hsw]
 refine wpAny_bind (wpAny_standAt (wpAny_bind ?_))
 show wpAny _ _ (do let _←comprehension (.ListComp elt [⟨target,iter,ifs,0⟩] scope pos) scope X.env _ (newList []) false (eval iter X.env) (some (assign (.Name x px) X.env))) _ _ s
 refine wpAny_bind (wpAny_mono (wpAny_comprehension_free (use:=some (assign (.Name x px) X.env)) (Q:=fun _ s'=>SP X pins Z .next s') (E:=X.xe) rfl hs (pS hc) hk hnm
  (thn (hi pins s σ H _ I h) fun v s1 h1=>thn h1 fun itv s2 h2=> ?_)) (fun _ s' q=>wpAny_pure (wpAny_pure q)) fun _ _ e=>e)
 obtain ⟨it,fp,tn,J,H2,e,I2,T,st2,f2,W⟩:=h2
 subst e
 refine wpAny_newObj_type ?_ (by show 0≤sizeLine;decide)
 have nD:H2 s2.heap.objs.size=none:=I2.hok.fresh (yZ _)
 have I3:Inv X pins σ (upd H2 s2.heap.objs.size (.lst [])) {s2 with heap:=s2.heap.push {cls:= .type "list",data:= .seq ([]:List Value).toArray}}:=
  I2.laid (t':=s2.toks) (fun b u e=>Heap.get?_push_of_some _ e) (yZ _) ⟨by show 0≤sizeLine;decide,[],0, .nil,Heap.get?_push_size _ rfl⟩
 obtain ⟨W,⟨m0,w0⟩,turn⟩:=W _ nD
 have lt2:∀b∈fp,b < s2.heap.objs.size:=fun b hb=>by
  obtain ⟨o,e,_⟩:=T.obj 0 _ st2 b hb
  exact Heap.lt_size e
 have nDf:∀b∈fp,b≠s2.heap.objs.size:=fun b hb=>zg (lt2 b hb)
 have f3:∀b∈fp,FpOk X pins (upd H2 s2.heap.objs.size (.lst [])) b:=fun b hb=>by
  obtain ⟨g0,g1⟩:=f2 b hb
  exact ⟨by rw [aG (nDf b hb)];exact g0,g1⟩
 have st3:tn 0 (s2.heap.push {cls:= .type "list",data:= .seq ([]:List Value).toArray}):=T.keep 0 _ _ st2 fun b _ o e=>Heap.get?_push_of_some _ e
 have lt3:∀b∈fp,b < (s2.heap.push {cls:= .type "list",data:= .seq ([]:List Value).toArray}).objs.size:=fun b hb=>by
  rw [Heap.size_push]
  exact Al (lt2 b hb)
 generalize hD:s2.heap.objs.size=D at*
 generalize hs3:({s2 with heap:=s2.heap.push {cls:= .type "list",data:= .seq ([]:List Value).toArray}}:Shared)=s3 at*
 have hh3:s3.heap=s2.heap.push {cls:= .type "list",data:= .seq ([]:List Value).toArray}:=by rw [←hs3]
 rw [←hh3] at st3 lt3
 generalize hH3:upd H2 D (.lst [])=H3 at*
 refine wpAny_newFunctionEnv (around:=some X.env) hnc (by intro y hy;cases hy) (fun h4 hn4 hsb4=> ?_) hk
 have kp4:∀b o,s3.heap.get? b=some o→h4.get? b=some o:=fun b o e=>hsb4.extBut b o (zg (Heap.lt_size e)) (Heap.get?_push_of_some _ e)
 have I4:=I3.block (tk:=s3.toks+([]:List (Str×Value)).length) f3 lt3 hk hnc hc hl hm kp4 hn4
 have st4:tn 0 h4:=T.keep 0 _ _ st3 fun b _ o e=>kp4 b o e
 have nC:∀b o,s3.heap.get? b=some o→b≠s3.heap.objs.size:=fun b o e=>zg (Heap.lt_size e)
 have out:∀(s5:Shared) (σ5:St) (H5:Hp) (h6:Heap),Inv (XC X scope NC s3.heap.objs.size s3 H3 fp (X.pn++pins)) [] σ5 H5 s5→Heap.SameBut s3.heap.objs.size s5.heap h6→Inv X pins σ H5 {s5 with heap:=h6}:=by
  intro s5 σ5 H5 h6 I5 sb6
  have kp6:∀b o,b≠s3.heap.objs.size→s5.heap.get? b=some o→h6.get? b=some o:=fun b o hb e=>sb6.extBut b o hb e
  have un:Un (frs X.stack) fp H3 H5 s3.heap s5.heap:=I5.base
  have hfree:H5 s3.heap.objs.size=none:=I5.free
  refine I3.call' (s':= {s5 with heap:=h6}) (ch:=fp) I5.os ⟨fun b o e n hb hx=>kp6 b o (nC b o e) (un.keep b o e n hb hx),fun b o e n hb hx=> ?_,un.free,fun b o e hx=> ?_,un.tups,un.frzs,un.tbls⟩ ?_ I5.bare (fun b hb=> ?_)
  · obtain ⟨sl,e1⟩:=un.slot b o e n hb hx
    exact ⟨sl,kp6 b _ (nC b o e) e1⟩
  · obtain ⟨o',e1⟩:=un.there b o e hx
    exact ⟨o',kp6 b o' (nC b o e) e1⟩
  · intro b o e
    have nb:b≠s3.heap.objs.size:=fun z=>by rw [z,hfree] at e;cases e
    refine (I5.hok b o e).stay (fun c v hc' r=>kp6 c v ?_ r) (fun _ r=>r) fun _ _ r=>r
    rcases hc' with z|z
    · rw [z];exact nb
    · intro y
      rw [y,hfree] at z
      cases z
  · obtain ⟨g0,g1,g2,g3,g4,g5⟩:=f3 b hb
    exact ⟨g3,g1,g4,g5⟩
 have fin:∀(s5:Shared) (σ5:St) (H5:Hp),Inv (XC X scope NC s3.heap.objs.size s3 H3 fp (X.pn++pins)) [] σ5 H5 s5→Z.nx (σ.set i (some (.ref D))) H5→compPost (model X.prog X.w) X.A X.xe (some (assign (.Name x px) X.env)) (fun _ s'=>SP X pins Z .next s') (.ref D) s3.heap.objs.size (.ok .next) s5:=by
  intro s5 σ5 H5 I5 q5
  obtain ⟨m5,hn5,_⟩:=id I5.loc
  have I6:=out s5 σ5 H5 s5.heap I5 (.refl ..)
  have lC:X.env.locals≠s3.heap.objs.size:=zg I3.lt
  show wpAny _ _ (assign (.Name x px) X.env (.ref D)) _ _ _
  refine wpAny_assign_Name (jI (X:=X) (v:= .ref D) I6 hN hix (.inl hx) rfl (fun s7 I7 hch=> ?_) (.inr hx))
  obtain ⟨a,sb7,ha⟩:=hch
  have aC:s3.heap.objs.size≠a:=by
   rcases ha with z|z
   · rw [z];exact Ne.symm lC
   · obtain ⟨v,oc,q1,_⟩:=I3.cell x a z
     exact Ne.symm (nC a oc q1)
  refine ⟨m5,qe hn5 sb7 aC,fun h8 sb8=>⟨σ.set i (some (.ref D)),H5,?_,q5⟩⟩
  have hfree:H5 s3.heap.objs.size=none:=I5.free
  have kp8:∀b o,b≠s3.heap.objs.size→s7.heap.get? b=some o→h8.get? b=some o:=fun b o hb e=>sb8.extBut b o hb e
  have s0lt:∀b o,X.s₀.heap.get? b=some o→b≠s3.heap.objs.size:=fun b o e=>zg (zl (Heap.lt_size e) I3.sz)
  refine ⟨I7.ok,I7.os,I7.bare,⟨fun b o e n hb hx=>kp8 b o (s0lt b o e) (I7.base.keep b o e n hb hx),fun b o e n hb hx=> ?_,I7.base.free,fun b o e hx=> ?_,I7.base.tups,I7.base.frzs,I7.base.tbls⟩,?_,fun y c e=> ?_,I7.free,I7.freeC,fun p hp=> ?_,?_,I7.len⟩
  · obtain ⟨sl,e1⟩:=I7.base.slot b o e n hb hx
    exact ⟨sl,kp8 b _ (s0lt b o e) e1⟩
  · obtain ⟨o',e1⟩:=I7.base.there b o e hx
    exact ⟨o',kp8 b o' (s0lt b o e) e1⟩
  · obtain ⟨m7,hn7,hl7⟩:=I7.loc
    have cellN:∀y c,X.env.cells.lookup y=some c→c≠s3.heap.objs.size:=fun y c e=>by
     obtain ⟨v,oc,q1,_⟩:=I3.cell y c e
     exact nC c oc q1
    refine ⟨m7,qe hn7 sb8 lC,fun j y v e1 e2 e3=> ?_⟩
    obtain ⟨u,ru,lk⟩:=hl7 j y v e1 e2 e3
    refine ⟨u,ru,?_⟩
    rcases lk with lk|⟨k1,c,k2,k3⟩
    · exact .inl lk
    · exact .inr ⟨k1,c,k2,k3.sameBut sb8 (cellN y c k2)⟩
  · obtain ⟨w',z⟩:=I7.cell y c e
    obtain ⟨v,oc,q1,_⟩:=I3.cell y c e
    exact ⟨w',z.sameBut sb8 (nC c oc q1)⟩
  · obtain ⟨e,n1,n2,n3,n4⟩:=I7.pin p hp
    obtain ⟨e3,_⟩:=I3.pin p hp
    exact ⟨kp8 _ _ (nC _ _ e3) e,n1,n2,n3,n4⟩
  · intro b o e
    have nb:b≠s3.heap.objs.size:=fun z=>by rw [z,hfree] at e;cases e
    refine (I7.hok b o e).stay (fun c v hc' r=>kp8 c v ?_ r) (fun _ r=>r) fun _ _ r=>r
    rcases hc' with z|z
    · rw [z];exact nb
    · intro y
      rw [y,hfree] at z
      cases z
 have loop:codeAny (model X.prog X.w) X.A (.compLoop (.ListComp elt [⟨target,iter,ifs,0⟩] scope pos) 0 (.ref it) (.ref D) (compEnvC scope (dH scope.names X.env.cells []) s3.heap.objs.size X.env)) (compPost (model X.prog X.w) X.A X.xe (some (assign (.Name x px) X.env)) (fun _ s'=>SP X pins Z .next s') (.ref D) s3.heap.objs.size)
  {s3 with heap:=h4,toks:=s3.toks+([]:List (Str×Value)).length}:=by
  refine jt (fun n s'=>∃i acc σ' H',Inv (XC X scope NC s3.heap.objs.size s3 H3 fp (X.pn++pins)) [] σ' H' s'∧Ext (subS mp σ) σ'∧tn i s'.heap∧(∀b∈fp,H' b=none)∧W i n acc H') ?_ m0
   ⟨0,[],subS mp σ,H3,I4,fun _ _ e=>e,st4,fun b hb=>(f3 b hb).1,w0⟩
  rintro n s5 ⟨i,acc,σ5,H5,I5,hσ,st5,fr5,w5⟩
  have I5':Inv (XC X scope NC s3.heap.objs.size s3 H3 fp (X.pn++pins)) [] (subS mp σ) H5 s5:=I5.weak (by rw [I5.len];unfold subS;rw [yW];exact hl) hσ
  have fpk:∀ {H':Hp},(∀b∈fp,H' b=none)→∀b∈fp,FpOk (XC X scope NC s3.heap.objs.size s3 H3 fp (X.pn++pins)) [] H' b:=fun hn b hb=>by
   obtain ⟨g0,g1,g2,g3,g4,g5⟩:=f3 b hb
   refine ⟨hn b hb,zg (lt3 b hb),?_, .inl hb,(I4.ok.exf b hb).2,fun p hp=>g5 p (by simpa using hp)⟩
   exact I4.ok.exfs b hb
  rcases turn i n acc H5 w5 with ⟨stop,q⟩|⟨go,step⟩
  · refine thn (T.done (XC X scope NC s3.heap.objs.size s3 H3 fp (X.pn++pins)) rfl rfl rfl hcalm i [] s5 _ H5 (fun _ _=>False) I5' (fpk fr5) st5 stop) fun r s6 ⟨hr,I6⟩=> ?_
    subst hr
    exact fin s6 _ H5 I6 q
  · refine thn (T.item (XC X scope NC s3.heap.objs.size s3 H3 fp (X.pn++pins)) rfl rfl rfl hcalm i [] s5 _ H5 (fun _ _=>False) I5' (fpk fr5) st5 go) fun r s6 ⟨u,hr,h6⟩=> ?_
    subst hr
    refine thn h6 fun _ s7 ⟨x,H7,I7,r7,y7,st7,fr7⟩=> ?_
    have I7':=I7.pinned (fpk fr7) (T.obj _ _ st7)
    refine thn (hg _ _ _ _ _ _ s7 _ H7 x u _ I7' r7 (step x H7 y7)) fun _ s8 ⟨σ8,H8,I8,ext8,q8⟩=> ?_
    refine thn (ht _ _ _ _ _ _ s8 σ8 H8 _ I8 q8) fun ok s9 ⟨H9,I9,q9⟩=> ?_
    have again:∀ {σ':St} {H':Hp} {s':Shared} {acc':List V} {m':Nat},Inv (XC X scope NC s3.heap.objs.size s3 H3 fp (X.pn++pins)) ([]++iD fp s7.heap) σ' H' s'→Ext (subS mp σ) σ'→m' < n→W (i+1) m' acc' H'→
     ∃m,m < n∧∃i acc σ' H',Inv (XC X scope NC s3.heap.objs.size s3 H3 fp (X.pn++pins)) [] σ' H' s'∧Ext (subS mp σ) σ'∧tn i s'.heap∧(∀b∈fp,H' b=none)∧W i m acc H':=by
     intro σ' H' s' acc' m' I' hσ' hm' w'
     refine ⟨m',hm',i+1,acc',σ',H',I'.unpinned,hσ',T.keep _ _ _ st7 fun b hb o e=>(I'.pin (b,o) (zp _ (zp _ (cS hb e)))).1,fun b hb=> ?_,w'⟩
     obtain ⟨o,e,d⟩:=T.obj _ _ st7 b hb
     exact (I'.pin (b,o) (zp _ (zp _ (cS hb e)))).2.1
    cases ok with
    |false=>
     rw [if_neg zj] at q9
     rw [if_neg zj]
     obtain ⟨m',hm',w'⟩:=q9
     exact again I9 ext8 hm' w'
    |true=>
     rw [if_pos rfl] at q9
     rw [if_pos rfl]
     refine thn (he _ _ _ _ _ _ s9 σ8 H9 _ I9 q9) fun v s10 ⟨y,H10,I10,r10,hD10,hz,m',hm',w'⟩=> ?_
     refine thn (eU (X:=XC X scope NC s3.heap.objs.size s3 H3 fp (X.pn++pins)) _ s10 σ8 H10 (.ref D) [y] (.ref D) [v] (fun _ H'=>H'=upd H10 D (.lst (acc++ [y]))) I10 rfl (.cons r10 .nil) ⟨D,acc,y,rfl,rfl,hD10,hz,rfl⟩) fun _ s11 ⟨_,H11,I11,_,e11⟩=> ?_
     subst e11
     exact again I11 ext8 hm' w'
 exact codeAny_compStart_list loop (T.self _ 0 _ _ _ st4 loop)
end
open PySem PySem.Spec PyProof.Rows
section
variable {κ:Type} [DecidableEq κ]
noncomputable def valV (kvs:List (κ×V)) (k:κ):Option V:=(kvs.find? fun kv=>decide (kv.1=k)).map (·.2)
noncomputable def putK (kvs:List (κ×V)) (k:κ) (v:V):List (κ×V):=
 if (kvs.any fun kv=>decide (kv.1=k))=true then kvs.map (fun kv=>if kv.1=k then (kv.1,v) else kv) else kvs++ [(k,v)]
theorem qY {p:κ×V} {r:List (κ×V)} {k:κ} (e:p.1=k):valV (p::r) k=some p.2:=by simp [valV,List.find?_cons,e]
theorem qZ {p:κ×V} {r:List (κ×V)} {k:κ} (e:¬p.1=k):valV (p::r) k=valV r k:=by simp [valV,List.find?_cons,e]
theorem RelO.getD {o:Option V} {u:Option Value} {d:V} {d':Value} (r:RelO o u) (rd:RelV d d'):RelV (o.getD d) (u.getD d'):=by
 cases o with
 |none=>cases u with
  |none=>exact rd
  |some _=>exact (show False from r).elim
 |some _=>cases u with
  |none=>exact (show False from r).elim
  |some _=>exact r
theorem KV.val {kvs:List (κ×V)} {vs:List (κ×Value)} (r:KV kvs vs) (k:κ):RelO (valV kvs k) (valueAt vs k):=by
 unfold KV at r
 induction r with
 |nil=>exact True.intro
 | @cons p q ps qs h t ih=>
  obtain ⟨h1,h2⟩:=h
  by_cases e:p.1=k
  · have e':q.1=k:=h1.symm.trans e
    have b:valueAt (q::qs) k=some q.2:=by simp [valueAt,List.find?_cons,e']
    rw [qY e,b];exact h2
  · have e':¬q.1=k:=fun z=>e (h1.trans z)
    have b:valueAt (q::qs) k=valueAt qs k:=by simp [valueAt,List.find?_cons,e']
    rw [qZ e,b];exact ih
theorem KV.any {kvs:List (κ×V)} {vs:List (κ×Value)} (r:KV kvs vs) (k:κ):(kvs.any fun kv=>decide (kv.1=k))=vs.any fun kv=>decide (kv.1=k):=by
 unfold KV at r
 induction r with
 |nil=>rfl
 |cons h t ih=>rw [List.any_cons,List.any_cons,ih,h.1]
theorem KV.repl {kvs:List (κ×V)} {vs:List (κ×Value)} (r:KV kvs vs) (k:κ) {y:V} {u:Value} (ry:RelV y u):
 KV (kvs.map fun kv=>if kv.1=k then (kv.1,y) else kv) (vs.map fun kv=>if kv.1=k then (kv.1,u) else kv):=by
 unfold KV at r ⊢
 induction r with
 |nil=>exact .nil
 | @cons p q ps qs h t ih=>
  rw [zo,zo]
  refine .cons ?_ ih
  obtain ⟨h1,h2⟩:=h
  by_cases e:p.1=k
  · rw [if_pos e,if_pos (h1.symm.trans e)];exact ⟨h1,ry⟩
  · rw [if_neg e,if_neg (fun z=>e (h1.trans z))];exact ⟨h1,h2⟩
theorem KV.put {kvs:List (κ×V)} {vs:List (κ×Value)} (r:KV kvs vs) (k:κ) {y:V} {u:Value} (ry:RelV y u):KV (putK kvs k y) (stored vs k u):=by
 unfold putK stored
 rw [r.any k]
 by_cases e:(vs.any fun kv=>decide (kv.1=k))=true
 · rw [if_pos e,if_pos e];exact r.repl k ry
 · rw [if_neg e,if_neg e];exact Paired.snoc r ⟨rfl,ry⟩
theorem KV.keys {kvs:List (κ×V)} {vs:List (κ×Value)} (r:KV kvs vs):kvs.map (·.1)=vs.map (·.1):=by
 unfold KV at r
 induction r with
 |nil=>rfl
 |cons h t ih=>rw [zo,zo,ih,h.1]
end
section
variable {P:Program} {w:World} {H:Hp} {h:Heap} {a:Addr}
end
section
variable {X:Cx} {pins:List (Addr×Obj)} {σ:St} {H:Hp} {s:Shared} {a:Addr} {y v:V} {u r:Value} {o:Option V} {A:Around} {E:Value→Shared→Prop}
end
section
variable {X:Cx} {pins:List (Addr×Obj)} {σ:St} {H:Hp} {s:Shared} {a:Addr} {kvs:List (Key×V)} {k:Key} {u:Value} {A:Around} {E:Value→Shared→Prop}
end
section
variable {X:Cx} {o i e value:Expr} {pos pos' tpos:Pos} {td ty tv:TE}
end
section
variable {X:Cx} {pos:Pos}
end
section
variable {X:Cx} {pins:List (Addr×Obj)} {σ:St} {H:Hp} {s:Shared} {a:Addr} {y d:V} {u r:Value} {o:Option V} {A:Around} {E:Value→Shared→Prop}
end
section
variable {X:Cx} {o e f:Expr} {apos cpos:Pos} {td ty tx:TE}
end
section
variable {X:Cx} {pins:List (Addr×Obj)} {σ:St} {H:Hp} {s:Shared} {a:Addr} {kvs:List (Key×V)} {A:Around} {E:Value→Shared→Prop}
end
section
variable {X:Cx} {pins:List (Addr×Obj)} {σ:St} {H:Hp} {s:Shared} {a:Addr} {y:V} {u:Value} {A:Around} {E:Value→Shared→Prop}
end
open PySem PySem.Spec PyProof.Rows
def jB (J:It) (D:Addr) (te:TE) (rest:L2.St) (Q:VK) (H1:Hp):Prop:=
 ∃W:Nat→Nat→List V→Hp→Prop,(∃m,W 0 m [] (upd H1 D (.lst [])))∧∀i m acc H2,W i m acc H2→
  (J.stop i H2∧Q (.ref D) H2)∨
  (J.go i H2∧∀x H3,J.yld i H2 x H3→aV 0 x (none::rest) H3 fun σ4 H4=>Ext (none::rest) σ4∧cA σ4 H4 fun b H5=>if b=true then te σ4 H5 fun v H6=>H6 D=some (.lst acc)∧acc.length < sizeLine∧∃m',m' < m∧W (i+1) m' (acc++ [v]) (upd H6 D (.lst (acc++ [v])))
   else∃m',m' < m∧W (i+1) m' acc H5)
theorem cJ {mp:List (Option Nat)} {wi:TI} {te:TE} {σ rest:L2.St} {H:Hp} {Q:VK} (e:subS mp σ=none::rest) (h:wi σ H fun J H1=>∀D,H1 D=none→jB J D te rest Q H1):db mp wi (aV 0) cA te σ H Q:=by
 unfold db
 rw [e]
 exact h
theorem ke {mp:List (Option Nat)} {wi:TI} {te:TE} {u:TS} {Z:Ends} {i:Nat} {σ rest:L2.St} {H:Hp} (e:subS mp σ=none::rest) (h:wi σ H fun J H1=>∀D,H1 D=none→jB J D te rest (fun x H2=>aV i x σ H2 (u Z)) H1):
 tSeq (tAsg (db mp wi (aV 0) cA te) (aV i)) u Z σ H:=cJ e h
def CompN (n i:Nat) (D:Addr) (acc:List V) (Pv:Nat→List V→Hp→Prop):VK:=fun v H6=>H6 D=some (.lst acc)∧acc.length < sizeLine∧∃m',m' < n - i∧(m'=n - (i+1)∧i+1≤n∧Pv (i+1) (acc++ [v]) (upd H6 D (.lst (acc++ [v]))))
theorem CompN.mk {n i:Nat} {D:Addr} {acc:List V} {Pv:Nat→List V→Hp→Prop} {v:V} {H6:Hp} (hi:i < n) (hl:acc.length < sizeLine) (h1:H6 D=some (.lst acc)) (h2:Pv (i+1) (acc++ [v]) (upd H6 D (.lst (acc++ [v])))):CompN n i D acc Pv v H6:=
 ⟨h1,hl,n - (i+1),by omega,rfl,hi,h2⟩
theorem pQ {J:It} {D:Addr} {te:TE} {rest:L2.St} {Q:VK} {H1:Hp} (n:Nat) (Pv:Nat→List V→Hp→Prop) (h0:Pv 0 [] (upd H1 D (.lst [])))
 (hgo:∀i acc H,i < n→Pv i acc H→J.go i H)
 (hs:∀i x acc H H',i < n→Pv i acc H→J.yld i H x H'→te (some x::rest) H' (CompN n i D acc Pv))
 (hd:∀acc H,Pv n acc H→J.stop n H∧Q (.ref D) H):jB J D te rest Q H1:=by
 refine ⟨fun i m acc H=>m=n - i∧i≤n∧Pv i acc H,⟨n,by simp,zG _,h0⟩,?_⟩
 rintro i m acc H ⟨rfl,hi,p⟩
 by_cases hlt:i < n
 · refine .inr ⟨hgo i acc H hlt p,fun x H' y=> ?_⟩
   refine ⟨ext1,?_⟩
   show (if true=true then te (some x::rest) H' (CompN n i D acc Pv) else∃m',m' < n - i∧(m'=n - (i+1)∧i+1≤n∧Pv (i+1) acc H'))
   exact iteT (hs i x acc H H' hlt p y)
 · have e:i=n:=by omega
   subst e
   exact .inl (hd acc H p)
theorem dy {K:PySem.W.Frag} {a D:Addr} {xs:List V} {te:TE} {rest:L2.St} {Q:VK} {H1:Hp} (Pv:Nat→List V→Hp→Prop) (h0:Pv 0 [] (upd H1 D (.lst [])))
 (hl:∀i acc H,Pv i acc H→SqT K H a xs)
 (hs:∀i x acc H,i < xs.length→xs[i]?=some x→Pv i acc H→te (some x::rest) H (CompN xs.length i D acc Pv))
 (hd:∀acc H,Pv xs.length acc H→Q (.ref D) H):jB (Itt K a) D te rest Q H1:=by
 refine pQ xs.length Pv h0 (fun i acc H hi p=>⟨xs,xs[i],hl i acc H p,by simp [hi]⟩) (fun i x acc H H' hi p y=> ?_) fun acc H p=>⟨⟨xs,hl _ acc H p,yZ _⟩,hd acc H p⟩
 obtain ⟨e,y⟩:=y
 subst e
 exact hs i x acc _ hi (y xs (hl i acc _ p)) p
theorem fc {n:Nat} {D:Addr} {te:TE} {rest:L2.St} {Q:VK} {H1:Hp} (Pv:Nat→List V→Hp→Prop) (h0:Pv 0 [] (upd H1 D (.lst [])))
 (hs:∀(i:Nat) acc H,i < n→Pv i acc H→te (some (.int (0+(i:Int)))::rest) H (CompN n i D acc Pv))
 (hd:∀acc H,Pv n acc H→Q (.ref D) H):jB (Itr 0 n) D te rest Q H1:=by
 refine pQ n Pv h0 (fun i acc H hi p=>hi) (fun i x acc H H' hi p y=> ?_) fun acc H p=>⟨yZ _,hd acc H p⟩
 obtain ⟨e,y⟩:=y
 subst e y
 exact hs i acc _ hi p
end L2
namespace Tk
open PySem PySem.Spec PyProof.Rows L2
inductive KT where
 |lf (k:Key)
 |tp (ts:List KT)
noncomputable instance:DecidableEq KT:=Classical.typeDecidableEq KT
mutual
noncomputable def KT.depth:KT→Nat
 | .lf _=>0
 | .tp ts=>KTs.depth ts+1
noncomputable def KTs.depth:List KT→Nat
 | []=>0
 |t::ts=>max (KT.depth t) (KTs.depth ts)
end
theorem gz:∀ {ts:List KT} {t:KT},t∈ts→t.depth≤KTs.depth ts
 |a::ts,t,h=>by
  unfold KTs.depth
  rcases zc.mp h with rfl|h
  · omega
  · have:=gz h
    omega
mutual
def KAt (h:Heap):Value→KT→Prop
 |v, .lf k=>gk k v=true
 |v, .tp ts=>∃a o items n,v= .ref a∧h.get? a=some o∧o.cls= .type "tuple"∧o.data= .seq items n∧KsAt h items.toList ts
def KsAt (h:Heap):List Value→List KT→Prop
 |vs,[]=>vs= []
 |vs,t::ts=>∃v r,vs=v::r∧KAt h v t∧KsAt h r ts
end
mutual
theorem KAt.keep {h h':Heap} (k:∀a o items n,h.get? a=some o→o.data= .seq items n→h'.get? a=some o):∀ {v:Value} {t:KT},KAt h v t→KAt h' v t
 |v, .lf k,x=>by unfold KAt at x ⊢;exact x
 |v, .tp ts,x=>by
  unfold KAt at x ⊢
  obtain ⟨a,o,items,n,e,g,c,d,r⟩:=x
  exact ⟨a,o,items,n,e,k a o items n g d,c,d,KsAt.keep k r⟩
theorem KsAt.keep {h h':Heap} (k:∀a o items n,h.get? a=some o→o.data= .seq items n→h'.get? a=some o):∀ {vs:List Value} {ts:List KT},KsAt h vs ts→KsAt h' vs ts
 |vs,[],x=>by unfold KsAt at x ⊢;exact x
 |vs,t::ts,x=>by
  unfold KsAt at x ⊢
  obtain ⟨v,r,e,x1,x2⟩:=x
  exact ⟨v,r,e,KAt.keep k x1,KsAt.keep k x2⟩
end
mutual
theorem KAt.det {h:Heap}:∀ {v:Value} {t u:KT},KAt h v t→KAt h v u→t=u
 |v, .lf k, .lf j,x,y=>by
  unfold KAt at x y
  rcases aO x with ⟨i,t,rfl,rfl⟩|⟨x',t,rfl,rfl⟩
  · rcases aO y with ⟨i',t',rfl,e⟩|⟨y',t',rfl,e⟩
    · injection e with e1 _
      rw [e1]
    · cases e
  · rcases aO y with ⟨i',t',rfl,e⟩|⟨y',t',rfl,e⟩
    · cases e
    · injection e with e1 _
      rw [e1]
 |v, .lf k, .tp us,x,y=>by
  unfold KAt at x y
  obtain ⟨a,o,items,n,rfl,_⟩:=y
  rcases aO x with ⟨i,t,rfl,e⟩|⟨x',t,rfl,e⟩<;>cases e
 |v, .tp ts, .lf k,x,y=>by
  unfold KAt at x y
  obtain ⟨a,o,items,n,rfl,_⟩:=x
  rcases aO y with ⟨i,t,rfl,e⟩|⟨x',t,rfl,e⟩<;>cases e
 |v, .tp ts, .tp us,x,y=>by
  unfold KAt at x y
  obtain ⟨a,o,items,n,rfl,g,c,d,r⟩:=x
  obtain ⟨a',o',items',n',e,g',c',d',r'⟩:=y
  injection e with e
  subst e
  rw [g] at g'
  cases g'
  rw [d] at d'
  injection d' with d1 _
  subst d1
  rw [KsAt.det r r']
theorem KsAt.det {h:Heap}:∀ {vs:List Value} {ts us:List KT},KsAt h vs ts→KsAt h vs us→ts=us
 |vs,[],[],_,_=>rfl
 |vs,[],u::us,x,y=>by
  unfold KsAt at x y
  obtain ⟨v,r,e,_⟩:=y
  rw [x] at e
  cases e
 |vs,t::ts,[],x,y=>by
  unfold KsAt at x y
  obtain ⟨v,r,e,_⟩:=x
  rw [y] at e
  cases e
 |vs,t::ts,u::us,x,y=>by
  unfold KsAt at x y
  obtain ⟨v,r,rfl,x1,x2⟩:=x
  obtain ⟨v',r',e,y1,y2⟩:=y
  cases e
  rw [KAt.det x1 y1,KsAt.det x2 y2]
end
theorem KsAt.len {h:Heap}:∀ {vs:List Value} {ts:List KT},KsAt h vs ts→vs.length=ts.length
 |vs,[],x=>by unfold KsAt at x;rw [x];rfl
 |vs,t::ts,x=>by
  unfold KsAt at x
  obtain ⟨v,r,rfl,_,x2⟩:=x
  rw [zw,zw,KsAt.len x2]
theorem KsAt.get {h:Heap}:∀ {vs:List Value} {ts:List KT} {j:Nat} {v:Value},KsAt h vs ts→vs[j]?=some v→∃t,ts[j]?=some t∧KAt h v t
 |vs,[],j,v,x,e=>by
  unfold KsAt at x
  rw [x] at e
  cases e
 |vs,t::ts,0,v,x,e=>by
  unfold KsAt at x
  obtain ⟨v',r,rfl,x1,_⟩:=x
  cases e
  exact ⟨t,rfl,x1⟩
 |vs,t::ts,j+1,v,x,e=>by
  unfold KsAt at x
  obtain ⟨v',r,rfl,_,x2⟩:=x
  exact KsAt.get (j:=j) x2 e
section
variable (prog:Program) (w:World)
mutual
noncomputable def KT.hash:KT→Int
 | .lf k=>(dh prog w).hash k
 | .tp ts=>reduceHash (Builtin.Tuple.tupleHashOf (KTs.hash ts))
noncomputable def KTs.hash:List KT→List Int
 | []=> []
 |t::ts=>KT.hash t::KTs.hash ts
end
end
mutual
noncomputable def KT.draws:KT→Nat
 | .lf _=>1
 | .tp ts=>KTs.draws ts+1
noncomputable def KTs.draws:List KT→Nat
 | []=>0
 |t::ts=>KT.draws t+KTs.draws ts
end
theorem n9 (prog:Program) (w:World):∀(a b:List KT),KTs.hash prog w (a++b)=KTs.hash prog w a++KTs.hash prog w b
 | [],b=>by simp [KTs.hash]
 |t::a,b=>by simp [KTs.hash,n9 prog w a b]
theorem jW:∀(a b:List KT),KTs.draws (a++b)=KTs.draws a+KTs.draws b
 | [],b=>by simp [KTs.draws]
 |t::a,b=>by simp [KTs.draws,jW a b,Nat.add_assoc]
section
variable {prog:Program} {w:World}
theorem vN:∀(n:Nat) {A:Around} {E:Value→Shared→Prop} {s:Shared} {t:KT} {v:Value} {Q:Int→Shared→Prop},t.depth≤n→A.units+n < cLine→KAt s.heap v t→Q (t.hash prog w) {s with toks:=s.toks+t.draws}→wpAny (model prog w) A (pyHash v) Q E s:=by
 intro n
 induction n with
 |zero=>
  intro A E s t v Q hd hu hk h
  cases t with
  |tp ts=>simp [KT.depth] at hd
  |lf k=>
   unfold KAt at hk
   simp only [KT.hash,KT.draws] at h
   exact (dh prog w).pyHash hk h
 |succ n ih=>
  intro A E s t v Q hd hu hk h
  cases t with
  |lf k=>
   unfold KAt at hk
   simp only [KT.hash,KT.draws] at h
   exact (dh prog w).pyHash hk h
  |tp ts=>
   unfold KAt at hk
   obtain ⟨a,o,items,m,rfl,g,c,d,r⟩:=hk
   have ty:s.TypeIs (.ref a) "tuple":=⟨o,g,c⟩
   have hd':KTs.depth ts≤n:=by
    unfold KT.depth at hd
    omega
   simp only [KT.hash,KT.draws] at h
   unfold pyHash
   unfold pyHashByItsType
   refine wpAny_bind (wpAny_cRoomFor_or (.inr (by omega)) (wpAny_bind (wpAny_specialOf ty F.slot_tuple_hash.lookup ?_)))
   show wpAny _ _ (if (some (Value.builtin "tuple.__hash__")==some Value.none)=true then _ else _) _ _ _
   rw [if_neg (fun z=>by rw [beq_builtin_none] at z;cases z)]
   refine wpAny_bind (wpAny_specialOf ty F.slot_tuple_hash.lookup ?_)
   show wpAny _ _ (do let y←callSpecialIfBoundUnlessNone? (.ref a) "__hash__" _;_) _ _ _
   refine wpAny_bind (wpAny_callSpecialIfBoundUnlessNone?_slot ty F.slot_tuple_hash (wpAny_call_entry F.slot_tuple_hash ty F.entry_tuple_hash ?_ (F.args_tuple_hash_1 _)))
   show wpAny _ _ (do let y←Builtin.Tuple.tupleItemsOf (.ref a);_) _ _ _
   refine wpAny_bind (wpAny_tupleItemsOf g d (wpAny_bind ?_))
   rw [←Array.forIn_toList]
   refine wpAny_forIn_list _ (fun rest (b:Array Int) s'=>∃done left,ts=done++left∧KsAt s.heap rest left∧b.toList=KTs.hash prog w done∧s'= {s with toks:=s.toks+KTs.draws done}) _ ?_ ?_ _ _ ⟨[],ts,rfl,r,rfl,by simp [KTs.draws]⟩
   · rintro x rest b s' ⟨done,left,rfl,hl,hb,rfl⟩
     cases left with
     |nil=>
      unfold KsAt at hl
      cases hl
     |cons t left=>
      unfold KsAt at hl
      obtain ⟨v,rr,e,h1,h2⟩:=hl
      cases e
      have dt:t.depth≤n:=by
       have:=gz (show t∈done++t::left by simp)
       omega
      refine wpAny_bind (ih (s:= {s with toks:=s.toks+KTs.draws done}) dt (by first|(show A.units+1+n < cLine;omega)|(show A.units+n < cLine;omega)) h1 ?_)
      have fin:∃done' left',done++t::left=done'++left'∧KsAt s.heap rest left'∧(b.push (KT.hash prog w t)).toList=KTs.hash prog w done'∧({s with toks:=s.toks+KTs.draws done+t.draws}:Shared)= {s with toks:=s.toks+KTs.draws done'}:=by
       refine ⟨done++ [t],left,by simp,h2,by rw [n9,Array.toList_push,hb];simp [KTs.hash],?_⟩
       rw [jW]
       simp [KTs.draws,Nat.add_assoc]
      first
       |exact wpAny_pure fin
       |exact wpAny_bind (wpAny_pure (wpAny_pure fin))
   · rintro b s' ⟨done,left,rfl,hl,hb,rfl⟩
     cases left with
     |cons t left=>
      unfold KsAt at hl
      obtain ⟨v,rr,e,_⟩:=hl
      cases e
     |nil=>
      rw [A0] at h
      show wpAny _ _ (retInt (Builtin.Tuple.tupleHashOf b.toList)) _ _ _
      rw [hb]
      refine wpAny_ret_mkInt ?_
      show wpAny _ _ (if (decide (-(2:Int)^63≤Builtin.Tuple.tupleHashOf (KTs.hash prog w done))&&decide (Builtin.Tuple.tupleHashOf (KTs.hash prog w done) < 2^63))=true then _ else _) _ _ _
      unfold reduceHash at h
      by_cases hr:(decide (-(2:Int)^63≤Builtin.Tuple.tupleHashOf (KTs.hash prog w done))&&decide (Builtin.Tuple.tupleHashOf (KTs.hash prog w done) < 2^63))=true
      · rw [if_pos hr] at h ⊢
        exact wpAny_pure (by simpa [Nat.add_assoc] using h)
      · rw [if_neg hr] at h ⊢
        exact wpAny_bind (wpAny_rule (wpAny_pure (by simpa [Nat.add_assoc] using h)))
end
open PySem PySem.Spec PyProof.Rows L2
theorem wb {ts us:List KT}:((List.range (min ts.length us.length)).all (fun j=>decide (ts[j]?=us[j]?))&&ts.length==us.length)=decide (ts=us):=by
 by_cases h:ts=us
 · subst h
   simp
 · rw [decide_eq_false h]
   by_cases hl:ts.length=us.length
   · have:∃j,j < ts.length∧ts[j]?≠us[j]?:=by
      refine Classical.byContradiction fun n=>h (List.ext_getElem? fun j=> ?_)
      by_cases hj:j < ts.length
      · exact Classical.byContradiction fun z=>n ⟨j,hj,z⟩
      · rw [List.getElem?_eq_none (by omega),List.getElem?_eq_none (by omega)]
     obtain ⟨j,hj,ne⟩:=this
     rw [Bool.and_eq_false_iff]
     left
     refine List.all_eq_false.mpr ⟨j,zN.mpr (by omega),?_⟩
     simp [ne]
   · rw [Bool.and_eq_false_iff]
     right
     simp [hl]
theorem wI:∀(n:Nat) {A:Around} {s:Shared} {t u:KT} {a b:Value},t.depth≤n→A.units+n+1 < cLine→KAt s.heap a t→KAt s.heap b u→SeqAt.EqAt A s a b (decide (t=u)):=by
 intro n
 induction n with
 |zero=>
  intro A s t u a b hd hu h1 h2
  cases t with
  |tp ts=>simp [KT.depth] at hd
  |lf k=>
   unfold KAt at h1
   cases u with
   |lf j=>
    unfold KAt at h2
    intro prog w E Q q
    refine (dh prog w).eqBool h1 h2 ?_
    have e:decide (k=j)=decide (KT.lf k=KT.lf j):=by simp
    rw [e]
    exact q
   |tp us=>
    unfold KAt at h2
    obtain ⟨r,o,items,m,rfl,g,c,d,_⟩:=h2
    rw [decide_eq_false (by intro z;cases z)]
    rcases aO h1 with ⟨i,t,rfl,rfl⟩|⟨x,t,rfl,rfl⟩
    · exact SeqAt.EqAt.int_tuple i t (items:=items) ⟨o,g,c,m,d⟩ (by omega)
    · exact SeqAt.EqAt.str_tuple x t (items:=items) ⟨o,g,c,m,d⟩ (by omega)
 |succ n ih=>
  intro A s t u a b hd hu h1 h2
  cases t with
  |lf k=>
   unfold KAt at h1
   cases u with
   |lf j=>
    unfold KAt at h2
    intro prog w E Q q
    refine (dh prog w).eqBool h1 h2 ?_
    have e:decide (k=j)=decide (KT.lf k=KT.lf j):=by simp
    rw [e]
    exact q
   |tp us=>
    unfold KAt at h2
    obtain ⟨r,o,items,m,rfl,g,c,d,_⟩:=h2
    rw [decide_eq_false (by intro z;cases z)]
    rcases aO h1 with ⟨i,t,rfl,rfl⟩|⟨x,t,rfl,rfl⟩
    · exact SeqAt.EqAt.int_tuple i t (items:=items) ⟨o,g,c,m,d⟩ (by omega)
    · exact SeqAt.EqAt.str_tuple x t (items:=items) ⟨o,g,c,m,d⟩ (by omega)
  |tp ts=>
   have h1':=h1
   have h2':=h2
   unfold KAt at h1
   obtain ⟨r,o,items,m,rfl,g,c,d,k1⟩:=h1
   cases u with
   |lf j=>
    unfold KAt at h2
    rw [decide_eq_false (by intro z;cases z)]
    rcases aO h2 with ⟨i,t,rfl,rfl⟩|⟨x,t,rfl,rfl⟩
    · exact SeqAt.EqAt.tuple_int i t (items:=items) ⟨o,g,c,m,d⟩ (by omega)
    · exact SeqAt.EqAt.tuple_str x t (items:=items) ⟨o,g,c,m,d⟩ (by omega)
   |tp us=>
    unfold KAt at h2
    obtain ⟨r',o',items',m',rfl,g',c',d',k2⟩:=h2
    by_cases z:r=r'
    · subst z
      rw [decide_eq_true (KAt.det h1' h2')]
      exact SeqAt.EqAt.same _
    · have hd':KTs.depth ts≤n:=by
       unfold KT.depth at hd
       omega
      have l1:=k1.len
      have l2:=k2.len
      have:=SeqAt.RcAt.tuples (A:=A) (e:=fun j=>decide (ts[j]?=us[j]?)) (show s.heap.IsTuple r items from ⟨o,g,c,m,d⟩) (show s.heap.IsTuple r' items' from ⟨o',g',c',m',d'⟩) (by omega) fun j g1 g2=>by
       obtain ⟨t1,e1,a1⟩:=k1.get (j:=j) (v:=items[j]) (by rw [zP];simp [g1])
       obtain ⟨t2,e2,a2⟩:=k2.get (j:=j) (v:=items'[j]) (by rw [zP];simp [g2])
       have e:decide (ts[j]?=us[j]?)=decide (t1=t2):=by rw [e1,e2];simp
       rw [e]
       refine ih (A:=A.in1) ?_ (by show A.units+1+n+1 < cLine;omega) a1 a2
       have:=gz (z7 e1)
       omega
      have hs1:items.size=ts.length:=by rw [←l1,zk]
      have hs2:items'.size=us.length:=by rw [←l2,zk]
      rw [hs1,hs2,wb] at this
      have e:decide (KT.tp ts=KT.tp us)=decide (ts=us):=by simp
      rw [e]
      exact SeqAt.EqAt.of_refs z this
theorem lX:∀(n:Nat) {prog:Program} {w:World} {A:Around} {E:Value→Shared→Prop} {s:Shared} {t:KT} {v:Value} {Q:Bool→Shared→Prop},KAt s.heap v t→t.depth≤n→Q true s→wpAny (model prog w) A (eqIsQuiet n v) Q E s:=by
 have leaf:∀(n:Nat) {prog:Program} {w:World} {A:Around} {E:Value→Shared→Prop} {s:Shared} {k:Key} {v:Value} {Q:Bool→Shared→Prop},gk k v=true→Q true s→wpAny (model prog w) A (eqIsQuiet n v) Q E s:=by
  intro n prog w A E s k v Q h q
  rw [eqIsQuiet_byValue _ ((dh prog w).byValue k v h)]
  exact wpAny_pure q
 intro n
 induction n with
 |zero=>
  intro prog w A E s t v Q h hd q
  cases t with
  |tp ts=>simp [KT.depth] at hd
  |lf k=>
   unfold KAt at h
   exact leaf 0 h q
 |succ n ih=>
  intro prog w A E s t v Q h hd q
  cases t with
  |lf k=>
   unfold KAt at h
   exact leaf _ h q
  |tp ts=>
   unfold KAt at h
   obtain ⟨a,o,items,m,rfl,g,c,d,r⟩:=h
   have ty:s.TypeIs (.ref a) "tuple":=⟨o,g,c⟩
   have hd':KTs.depth ts≤n:=by
    unfold KT.depth at hd
    omega
   unfold eqIsQuiet
   refine wpAny_bind (wpAny_specialOf ty F.slot_tuple_eq.lookup ?_)
   show wpAny _ _ (do let y←isInstance (.ref a) (.type "tuple");_) _ _ _
   refine wpAny_bind (wpAny_isInstance ty isSubtype_tuple_tuple ?_)
   simp only [Bool.not_true,if_false,zy]
   refine wpAny_bind (wpAny_seqItems g d (wpAny_bind ?_))
   show wpAny _ _ (forIn items _ _) _ _ _
   rw [←Array.forIn_toList]
   refine wpAny_forIn_list _ (fun rest b s'=>b.1=none∧s'=s∧∃left,KsAt s.heap rest left∧KTs.depth left≤n) _ ?_ ?_ _ _ ⟨rfl,rfl,ts,r,hd'⟩
   · rintro x rest b s' ⟨hb,rfl,left,hl,hd2⟩
     cases left with
     |nil=>
      unfold KsAt at hl
      cases hl
     |cons t left=>
      unfold KsAt at hl
      obtain ⟨v,rr,e,h1,h2⟩:=hl
      cases e
      unfold KTs.depth at hd2
      refine wpAny_bind (ih h1 (by omega) ?_)
      simp only [Bool.not_true,if_false,zy]
      exact wpAny_pure ⟨rfl,rfl,left,h2,by omega⟩
   · rintro ⟨b1,b2⟩ s' ⟨hb,rfl,_⟩
     simp only at hb
     subst hb
     exact wpAny_pure q
end Tk
namespace Dj
open PySem PySem.Spec PyProof.Rows L2 Tre
def SqX (K:PySem.W.Frag) (H:Hp) (a:Addr) (xs:List V):Prop:=
 H a=some (.tup xs)∨∃(o:Obj) (its:Array Value) (n:Nat),K.lookup a=some o∧o.cls= .type "tuple"∧o.data= .seq its n∧its.size≤sizeLine∧Vals xs its.toList
theorem SqX.sq {K:PySem.W.Frag} {H:Hp} {a:Addr} {xs:List V} (h:SqX K H a xs):SqT K H a xs:=h.elim (fun e=> .inl (.inl e)) .inr
mutual
def KVt (K:PySem.W.Frag) (H:Hp):V→Tk.KT→Prop
 |v, .lf (.inl i)=>v= .int i
 |v, .lf (.inr x)=>v= .str x
 |v, .tp ts=>∃r vs,v= .ref r∧SqX K H r vs∧KVts K H vs ts
def KVts (K:PySem.W.Frag) (H:Hp):List V→List Tk.KT→Prop
 |vs,[]=>vs= []
 |vs,t::ts=>∃v r,vs=v::r∧KVt K H v t∧KVts K H r ts
end
section
variable {P:Program} {w:World} {K:PySem.W.Frag} {H H':Hp} {h:Heap}
theorem x8 (ok:HOk P w H h) (kin:K.In h) {q:Addr} {vs:List V} (e:SqX K H q vs):∃its:List Value,Vals vs its∧∃o n,h.get? q=some o∧o.cls= .type "tuple"∧o.data= .seq its.toArray n:=by
 rcases e with e|⟨o,its,n,hk,hc,hs,hz,r⟩
 · obtain ⟨_,its,rv,o,h1,h2,n,h3⟩:=(show ObjOk P w H h q (.tup vs) from ok q _ e)
   exact ⟨its,rv,o,n,h1,h2,h3⟩
 · exact ⟨its.toList,r,o,n,kin q o hk,hc,by simpa using hs⟩
mutual
theorem xR (ok:HOk P w H h) (kin:K.In h):∀ {v:V} {t:Tk.KT} {u:Value},KVt K H v t→RelV v u→Tk.KAt h u t
 |v, .lf (.inl i),u,a,r=>by
  unfold KVt at a
  subst a
  obtain ⟨t,rfl⟩:=r
  simp only [Tk.KAt]
  exact qL i t
 |v, .lf (.inr x),u,a,r=>by
  unfold KVt at a
  subst a
  obtain ⟨t,rfl⟩:=r
  simp only [Tk.KAt]
  exact qK x t
 |v, .tp ts,u,a,r=>by
  unfold KVt at a
  obtain ⟨q,vs,rfl,e,as⟩:=a
  obtain rfl:u=Value.ref q:=r
  obtain ⟨its,rv,o,n,h1,h2,h3⟩:=x8 ok kin e
  simp only [Tk.KAt]
  exact ⟨q,o,its.toArray,n,rfl,h1,h2,h3,by simpa using kats_of ok kin as rv⟩
theorem kats_of (ok:HOk P w H h) (kin:K.In h):∀ {vs:List V} {ts:List Tk.KT} {us:List Value},KVts K H vs ts→Vals vs us→Tk.KsAt h us ts
 |vs,[],us,a,r=>by
  unfold KVts at a
  subst a
  cases r
  simp [Tk.KsAt]
 |vs,t::ts,us,a,r=>by
  unfold KVts at a
  obtain ⟨v,q,rfl,a1,a2⟩:=a
  cases r with
  |cons r1 r2=>
   simp only [Tk.KsAt]
   exact ⟨_,_,rfl,xR ok kin a1 r1,kats_of ok kin a2 r2⟩
end
end
section
variable {P:Program} {w:World} {H:Hp} {h:Heap} {a:Addr}
end
section
variable {X:Cx} {pos pos' apos cpos:Pos} {o i e f value:Expr} {td ty tv tx:TE}
variable {P:Program} {w:World} {K:PySem.W.Frag}
end
end Dj
namespace Tre
open PySem L2
theorem j7 {x y:Str} (h:x.cps.toList=y.cps.toList):x=y:=by
 cases x
 cases y
 simp only [Str.mk.injEq]
 exact Array.toList_inj.mp h
theorem ic {ts us:List Tr} (h:∀t∈ts,∀u∈us,code t=code u→t=u) (e:codes ts=codes us):ts=us:=by
 induction ts generalizing us with
 |nil=>cases us with
  |nil=>rfl
  |cons u us=>simp [codes] at e
 |cons t ts ih=>
  cases us with
  |nil=>simp [codes] at e
  |cons u us=>
   simp only [codes,Ad] at e
   rw [h t yY u yY e.1,ih (fun a ma b mb=>h a (z6 _ ma) b (z6 _ mb)) e.2]
theorem nl {x y:String} (h:(Str.ofString x).cps.toList≠(Str.ofString y).cps.toList) {r s:List Co}:Co.tup (.str (Str.ofString x).cps.toList::r)=Co.tup (.str (Str.ofString y).cps.toList::s)→False:=fun e=>by
 simp only [Co.tup.injEq,Ad,Co.str.injEq] at e
 exact h e.1
theorem rg:∀(n:Nat) {k:So} {t u:Tr},t.depth≤n→Ty k t→Ty k u→code t=code u→t=u:=by
 intro n
 induction n with
 |zero=>
  intro k t u hd h1 h2
  cases h1<;>simp [Tr.depth] at hd
 |succ n ih=>
  intro k t u hd h1 h2 e
  have sub:∀ {ts:List Tr} {t:Tr},(Tr.tup ts).depth≤n+1→t∈ts→t.depth≤n:=fun h m=>by
   unfold Tr.depth at h
   have:=cm m
   omega
  have sub2:∀ {ts l:List Tr} {t:Tr},(Tr.tup ts).depth≤n+1→Tr.tup l∈ts→t∈l→t.depth≤n:=fun h m m2=>by
   have h3:=sub h m
   unfold Tr.depth at h3
   have:=cm m2
   omega
  cases h1<;>cases h2<;>simp only [code,codes] at e
  all_goals first
   |exact (nl (by decide +kernel) e).elim
   |skip
  all_goals simp only [Co.tup.injEq,Ad,Co.str.injEq,Co.num.injEq,and_true,true_and] at e
  · rw [j7 e]
  · rename_i x ts _ h1 y us _ h2
    rw [j7 e.1,ic (fun a ma b mb=>ih (sub2 hd (by simp) ma) (h1 a ma) (h2 b mb)) e.2]
  · rw [e.1,e.2]
  · rename_i t1 f1 a1 b1 t2 f2 a2 b2
    rw [ih (sub hd (by simp)) a1 a2 e.1,ih (sub hd (by simp)) b1 b2 e.2]
  · rw [j7 e]
  · rename_i p1 f1 a1 b1 p2 f2 a2 b2
    rw [ic (fun a ma b mb=>ih (sub2 hd (by simp) ma) (a1 a ma) (a2 b mb)) e.1,ih (sub hd (by simp)) b1 b2 e.2]
  · rename_i t1 u1 a1 b1 t2 u2 a2 b2
    rw [ih (sub hd (by simp)) a1 a2 e.1,ih (sub hd (by simp)) b1 b2 e.2]
  · rename_i w1 a1 w2 a2
    rw [ih (sub hd (by simp)) a1 a2 e]
  · rename_i l1 a1 l2 a2
    rw [ic (fun a ma b mb=>ih (sub2 hd (by simp) ma) (a1 a ma) (a2 b mb)) e]
  · rename_i l1 a1 l2 a2
    rw [ic (fun a ma b mb=>ih (sub2 hd (by simp) ma) (a1 a ma) (a2 b mb)) e]
  · rename_i w1 b1 a1 w2 b2 a2
    have e2:b1=b2:=by
     have:=e.2
     cases b1<;>cases b2<;>simp at this ⊢
    rw [ih (sub hd (by simp)) a1 a2 e.1,e2]
def Rise (us:List Tr):Prop:=∀(i j:Nat) (t u:Tr),i≤j→us[i]?=some t→us[j]?=some u→ltT u t=false
theorem Rise.tail {a:Tr} {us:List Tr} (h:Rise (a::us)):Rise us:=fun i j t u hij e1 e2=>h (i+1) (j+1) t u (by omega) (by simpa using e1) (by simpa using e2)
theorem Rise.head {a b:Tr} {us:List Tr} (h:Rise (a::us)) (m:b∈us):ltT b a=false:=by
 obtain ⟨j,hj,e⟩:=zX m
 exact h 0 (j+1) a b (by omega) rfl (by simp [hj,e])
theorem pb {k:So}:∀ {us vs:List Tr},us.Perm vs→Rise us→Rise vs→(∀t∈us,Ty k t)→us=vs
 | [],vs,p,_,_,_=>by
  have:=p.length_eq
  cases vs with
  |nil=>rfl
  |cons v vs=>simp at this
 |a::us,[],p,_,_,_=>by
  have:=p.length_eq
  simp at this
 |a::us,b::vs,p,h1,h2,ty=>by
  have e:a=b:=by
   have ma:a∈b::vs:=p.mem_iff.mp yY
   have mb:b∈a::us:=p.mem_iff.mpr yY
   rcases zc.mp ma with rfl|ma
   · rfl
   · rcases zc.mp mb with rfl|mb
     · rfl
     · have q:=oq (h2.head ma) (h1.head mb)
       exact rg a.depth (yZ _) (ty a yY) (ty b (z6 _ mb)) ((dw a b).mp q)
  subst e
  rw [pb (List.Perm.cons_inv p) h1.tail h2.tail fun t m=>ty t (z6 _ m)]
end Tre
namespace Wd
open PySem L2 Tre Mth Dj
def Lt2 (e:Nat) (x:Int):Prop:=x.natAbs < 2^e
theorem Lt2.mono {m n:Nat} {x:Int} (h:Lt2 m x) (hn:m≤n):Lt2 n x:=zl h (Nat.pow_le_pow_right (by decide) hn)
theorem Lt2.big {n:Nat} {x:Int} (h:Lt2 n x) (hn:n≤8000):Big x:=h.mono hn
theorem Lt2.div {e:Nat} {x y:Int} (h:Lt2 e x):Lt2 e (x / y):=zq (j1 x y) h
theorem Lt2.mul {m n:Nat} {x y:Int} (h1:Lt2 m x) (h2:Lt2 n y):Lt2 (m+n) (x*y):=by
 unfold Lt2 at*
 rw [Int.natAbs_mul,Nat.pow_add]
 exact Nat.mul_lt_mul'' h1 h2
theorem Lt2.add {m:Nat} {x y:Int} (h1:Lt2 m x) (h2:Lt2 m y):Lt2 (m+1) (x+y):=by
 unfold Lt2 at*
 have:=Int.natAbs_add_le x y
 rw [Nat.pow_succ]
 omega
theorem ph {m n:Nat} {a b c d:Int} (ha:Lt2 m a) (hb:Lt2 m b) (hc:Lt2 n c) (hd:Lt2 n d):Lt2 (m+n+1) (pX a b c d)∧Lt2 (m+n+1) (pY a b c d):=by
 refine ⟨?_,?_⟩
 · unfold pX
   refine Lt2.div ?_
   unfold pT
   refine Lt2.add (ha.mul hd.div) ?_
   rw [Nat.add_comm]
   exact hc.mul hb.div
 · unfold pY
   exact (hb.div.mul hd.div).mono (by omega)
theorem lT {m n:Nat} {a b c d:Int} (ha:Lt2 m a) (hb:Lt2 m b) (hc:Lt2 n c) (hd:Lt2 n d):Lt2 (m+n) (tX a b c d)∧Lt2 (m+n) (tY a b c d):=⟨ha.div.mul hc.div,hb.div.mul hd.div⟩
theorem sL {a b c d:Int} (hb:0 < b) (hd:0 < d):0 < pY a b c d:=by
 have g0:(0:Int) < (Int.gcd b d:Int):=by
  have:=zr b (show d≠0 by omega)
  omega
 have e0:(0:Int) < pE a b c d:=by
  have:=zr (pT a b c d) (show (Int.gcd b d:Int)≠0 by omega)
  unfold pE
  omega
 unfold pY
 have h1:0 < b / (Int.gcd b d:Int):=A7 hb (by omega) (Int.gcd_dvd_left b d)
 have h2:0 < d / pE a b c d:=by
  refine A7 hd (by omega) ?_
  unfold pE
  exact Int.dvd_trans (Am (pT a b c d) (Int.gcd b d:Int)) (Am b d)
 exact Int.mul_pos h1 h2
theorem qj {a b c d:Int} (hb:0 < b) (hd:0 < d):0 < tY a b c d:=by
 have g1:(0:Int) < (Int.gcd c b:Int):=by
  have:=zr c (show b≠0 by omega)
  omega
 have g2:(0:Int) < (Int.gcd a d:Int):=by
  have:=zr a (show d≠0 by omega)
  omega
 unfold tY
 exact Int.mul_pos (A7 hb (by omega) (Am c b)) (A7 hd (by omega) (Am a d))
abbrev Fr:=Int×Int
def frT (p:Fr):Tr:= .tup [.int p.1, .int p.2]
structure Gf (e:Nat) (p:Fr):Prop where
 pos:0 < p.2
 top:Lt2 e p.1
 bot:Lt2 e p.2
theorem Gf.mono {m n:Nat} {p:Fr} (h:Gf m p) (hn:m≤n):Gf n p:=⟨h.pos,h.top.mono hn,h.bot.mono hn⟩
def zero:Fr:=(0,1)
noncomputable def cK (p q:Fr):Fr:=(pX p.1 p.2 q.1 q.2,pY p.1 p.2 q.1 q.2)
noncomputable def bq (p q:Fr):Fr:=(tX p.1 p.2 q.1 q.2,tY p.1 p.2 q.1 q.2)
theorem Gf.plus {m n:Nat} {p q:Fr} (h1:Gf m p) (h2:Gf n q):Gf (m+n+1) (cK p q):=⟨sL h1.pos h2.pos,(ph h1.top h1.bot h2.top h2.bot).1,(ph h1.top h1.bot h2.top h2.bot).2⟩
theorem Gf.times {m n:Nat} {p q:Fr} (h1:Gf m p) (h2:Gf n q):Gf (m+n) (bq p q):=⟨qj h1.pos h2.pos,(lT h1.top h1.bot h2.top h2.bot).1,(lT h1.top h1.bot h2.top h2.bot).2⟩
end Wd
namespace K25
open PySem L2 Mth
noncomputable def top (i:Nat):Stmt:=PySem.Challenge.pw_smallword_k25_sum_steps.main.body.getD i (.Pass ⟨0,0,0,0⟩)
noncomputable abbrev iK:Stmt:=vM (top 1) 0
noncomputable abbrev sCd:Stmt:=top 13
noncomputable abbrev sFr:Stmt:=top 14
noncomputable abbrev jP:Stmt:=top 15
noncomputable abbrev iy:Stmt:=top 16
noncomputable abbrev iq:Stmt:=top 17
noncomputable abbrev fQ:Stmt:=top 18
noncomputable abbrev iz:Stmt:=top 19
noncomputable abbrev jN:Stmt:=top 20
noncomputable abbrev sIw:Stmt:=top 24
noncomputable abbrev sIto:Stmt:=top 25
noncomputable abbrev sNmQ:Stmt:=top 26
noncomputable abbrev sFrQ:Stmt:=top 27
noncomputable abbrev sTmQ:Stmt:=top 28
noncomputable abbrev sCtQ:Stmt:=top 29
noncomputable abbrev sRow:Stmt:=top 32
noncomputable abbrev sPrQ:Stmt:=top 36
noncomputable abbrev sSmQ:Stmt:=top 37
noncomputable abbrev sSum:Stmt:=top 38
noncomputable abbrev ir:Stmt:=top 39
noncomputable abbrev fK:Stmt:=top 40
noncomputable abbrev sAtQ:Stmt:=top 43
noncomputable abbrev sWsQ:Stmt:=top 44
noncomputable abbrev sStp:Stmt:=top 48
noncomputable abbrev sSt1:Stmt:=top 49
noncomputable abbrev sPtQ:Stmt:=top 53
noncomputable abbrev sRby:Stmt:=top 56
noncomputable abbrev sRoS:Stmt:=top 58
noncomputable abbrev jM:Stmt:=top 65
noncomputable abbrev gZ:Stmt:=top 66
noncomputable abbrev ix:Stmt:=top 67
noncomputable abbrev ip:Stmt:=top 68
noncomputable abbrev jL:Stmt:=top 69
noncomputable abbrev sFew:Stmt:=top 70
noncomputable abbrev jQ:Stmt:=top 71
noncomputable abbrev fJ:Stmt:=top 72
noncomputable abbrev fH:Stmt:=top 73
noncomputable abbrev iw:Stmt:=top 74
noncomputable abbrev iA:Stmt:=top 75
noncomputable abbrev jO:Stmt:=top 76
noncomputable abbrev sAsk:Stmt:=top 77
noncomputable abbrev jR:Stmt:=top 78
noncomputable abbrev sDue:Stmt:=top 79
noncomputable abbrev iu:Stmt:=top 82
noncomputable abbrev sLaw:Stmt:=top 83
section
variable {P:Program} {w:World} {K:PySem.W.Frag} {mg:Str→Option Value} {base:Heap}
structure Blt (mg:Str→Option Value):Prop where
 ab:mg "abs"=none
 le:mg "len"=none
 ra:mg "range"=none
 isi:mg "isinstance"=none
 tu:mg "tuple"=none
 it:mg "int"=none
 bo:mg "bool"=none
 li:mg "list"=none
 st:mg "str"=none
 al:mg "all"=none
 an:mg "any"=none
 zi:mg "zip"=none
 so:mg "sorted"=none
 ve:mg "ValueError"=none
def fg (K:PySem.W.Frag):Sp:=fun vs H Q _=>∃(x C fI:Addr) (y:V),vs= [.ref x,y]∧H x=some (Exo C x)∧XCls K C fI∧Q .non H
theorem scI:aD ["self","words"] ["self","words"] (ah iK):=⟨rfl,rfl,rfl,by decide +kernel,rfl,by decide +kernel,by decide +kernel⟩
theorem lb {f:Addr} {fd:FuncData} (F:Fun K "__init__" "WishError.__init__" iK f fd) (B:Blt mg):FnOk P w K mg base CX0 1 f fd ["self","words"] (fg K):=by
 refine F.ok scI (fun vs H Q E h=> ?_) (fun cdv A outer s H vs Q E hr h=> ?_)
 · obtain ⟨x,C,fI,y,rfl,_⟩:=h
   rfl
 · obtain ⟨x,C,fI,y,rfl,hH,hX,k⟩:=h
   refine ⟨_,aj (f8 (mn rfl B.ve (a8 (pv 0) (a8 (pv 1) a9)))),?_⟩
   exact ⟨_,rfl,_,rfl,x,C,fI,[y],rfl,by show 1≤1000;decide,hH,hX,k⟩
def spCd:Sp:=fun vs H Q _=>∃(a b:Int),vs= [.int a, .int b]∧Q (.int (Int.gcd a b:Int)) H
theorem scC:aD ["one","other"] ["one","other"] (ah sCd):=⟨rfl,rfl,rfl,by decide +kernel,rfl,by decide +kernel,by decide +kernel⟩
theorem wf (a:Int):(if a < 0 then -a else a)=(Int.gcd a 0:Int):=by
 rw [Int.gcd_zero_right]
 split<;>omega
theorem tE {f:Addr} {fd:FuncData} (F:Fun K "common_divisor" "common_divisor" sCd f fd) (B:Blt mg):FnOk P w K mg base CX0 1 f fd ["one","other"] spCd:=by
 refine F.ok scC (fun vs H Q E h=> ?_) (fun cdv A outer s H vs Q E hr h=> ?_)
 · obtain ⟨a,b,rfl,_⟩:=h
   rfl
 · obtain ⟨a,b,rfl,k⟩:=h
   refine ⟨_,af (sJ PassesOwn.never (aE mr (pv 1) ac (aA _)) (aj (xj (i:=0) (j:=1) rfl scC.nd rfl rfl (by decide) rfl rfl (a8 (pv 1) (a8 (aH vh (pv 0) (pv 1)) a9)) rfl)))
    (aj (am (ar uB rfl B.ab uC (a8 (pv 0) a9)))),?_⟩
   refine qX (fun σ H'=>H'=H∧∃x y:Int,σ= [some (.int x),some (.int y)]∧Int.gcd x y=Int.gcd a b) (fun σ _=>match σ with| [_,some (.int y)]=>y.natAbs|_=>0) ⟨rfl,a,b,rfl,rfl⟩ ?_ ?_
   · rintro σ H' ⟨rfl,x,y,rfl,e⟩
     refine ⟨_,rfl,rfl,_,rfl,?_⟩
     by_cases z:y=0
     · subst z
       rw [decide_eq_true rfl]
       refine iteF ?_
       refine ⟨_,rfl,x,rfl,?_⟩
       rw [wf,e]
       exact k
     · have z':¬(V.int y=V.int 0):=fun q=>z (V.int.inj q)
       rw [decide_eq_false z']
       refine iteT ?_
       refine ⟨_,rfl,_,rfl,_,rfl,x,y,rfl,rfl,z,_,_,rfl,?_⟩
       refine ⟨⟨rfl,y,x.fmod y,rfl,?_⟩,?_⟩
       · rw [uf,e]
       · exact vS z
   · intro σ H' R R' hR h
     obtain ⟨v,e1,e2,q,e3,h⟩:=h
     exact ⟨v,e1,e2,q,e3,hR _ _ h⟩
def spFr (C:Addr):Sp:=fun vs H Q E=>∃(t b:Int),vs= [.int t, .int b]∧Big t∧Big b∧(b=0→E (.ref C) none H)∧(b≠0→∀p,H p=none→Q (.ref p) (upd H p (.tup [.int (fx t b), .int (fy t b)])))
theorem scF:aD ["top","bottom","divisor"] ["top","bottom"] (ah sFr):=⟨rfl,rfl,rfl,by decide +kernel,rfl,by decide +kernel,by decide +kernel⟩
theorem ij {t b:Int} (h:Big b) (z:b≠0):Big (Int.gcd t b:Int):=by
 have:Int.gcd t b≤b.natAbs:=Int.gcd_le_natAbs_right t (by omega)
 unfold Big at*
 omega
theorem yK {f fC fI C:Addr} {fd fdC fdI:FuncData} (F:Fun K "fraction" "fraction" sFr f fd) (FC:Fun K "common_divisor" "common_divisor" sCd fC fdC) (bC:Binds K fdC ["one","other"] []) (mC:mg "common_divisor"=some (.ref fC))
 (FI:Fun K "__init__" "WishError.__init__" iK fI fdI) (bI:Binds K fdI ["self","words"] []) (mX:mg "NoShare"=some (.ref C)) (XC:XCls K C fI) (B:Blt mg):FnOk P w K mg base (CX1 P w) 3 f fd ["top","bottom"] (spFr C):=by
 have GC:FnOk P w K mg base CX0 1 fC fdC ["one","other"] spCd:=tE FC B
 have GI:FnOk P w K mg base CX0 1 fI fdI ["self","words"] (fg K):=lb FI B
 refine F.okX scF (fun vs H Q E h=> ?_) (fun cdv A outer s H vs Q E hr h=> ?_)
 · obtain ⟨a,b,rfl,_⟩:=h
   rfl
 · obtain ⟨t,b,rfl,ht,hb,kE,kQ⟩:=h
   have hr1:Room 1 _:=hr.mono (by decide)
   refine ⟨_,af (aP (aE bY (pv 1) ac (aA _)) (aj (fj rfl XC (fm XC GI hr rfl mX bI ak (a8 aY a9) (by decide) (hlen:=fun vs H Q E ⟨_,_,_,_,e,_⟩=>by rw [e];show 2≤1000;decide)) eO)) au)
    (af (aJ (i:=2) scF.nd rfl (Or.inl rfl) (ai GC hr1 rfl mC FC.kp bC .nil ak (a8 (pv 0) (a8 (pv 1) a9))))
    (af (aP (aE pA (pv 1) ac (aA _)) (aj (aJ (i:=2) scF.nd rfl (Or.inl rfl) (cW cq (pv 2)))) au)
    (aj (am (aB (a8 (aH mv (pv 0) (pv 2)) (a8 (aH mv (pv 1) (pv 2)) a9))))))),?_⟩
   refine ⟨_,rfl,rfl,_,rfl,?_⟩
   by_cases z:b=0
   · subst z
     rw [decide_eq_true rfl]
     refine iteT ?_
     intro x nx ns
     refine ⟨x,C,fI,_,rfl,aa,XC,rfl,x,rfl,aa,ns,?_⟩
     rw [iP nx]
     exact kE rfl
   · have z':¬(V.int b=V.int 0):=fun q=>z (V.int.inj q)
     rw [decide_eq_false z']
     refine iteF ?_
     refine ⟨_,rfl,_,rfl,t,b,rfl,?_⟩
     have bg:=ij (t:=t) hb z
     have n0:=uk (t:=t) z
     have last:∀d:Int,d=dv t b→∀H':Hp,H'=H→((tRet (tTup (cO (tOp (rI (fun _ j=>j≠0∧Big j) fun i j=> .int (i.fdiv j)) (tVar 0) (tVar 2)) (cO (tOp (rI (fun _ j=>j≠0∧Big j) fun i j=> .int (i.fdiv j)) (tVar 1) (tVar 2)) tNil))))
      {nx:=fun _ H'=>Q .non H',rt:=Q} [some (.int t),some (.int b),some (.int d)] H'):=by
      intro d hd H' hH
      subst hH
      have bd:Big d:=by
       rw [hd]
       unfold Big at*
       rw [um]
       omega
      have nd:d≠0:=by rw [hd];exact n0
      refine ⟨_,rfl,_,rfl,t,d,rfl,rfl,⟨nd,bd⟩,_,rfl,_,rfl,b,d,rfl,rfl,⟨nd,bd⟩,by show 2≤sizeLine;decide,fun p hp=> ?_⟩
      have:=kQ z p hp
      unfold fx fy at this
      rw [←hd] at this
      exact this
     refine ⟨_,rfl,b,0,rfl,rfl,_,rfl,?_⟩
     by_cases zb:b < 0
     · rw [decide_eq_true zb]
       refine iteT ?_
       refine ⟨_,rfl,_,rfl,?_⟩
       exact last _ (by unfold dv;rw [if_pos zb]) H rfl
     · rw [decide_eq_false zb]
       refine iteF ?_
       exact last _ (by unfold dv;rw [if_neg zb]) H rfl
end
open PySem L2 Mth Tre
theorem ae {H:Hp} {p:Addr} {o:HO} (h:H p=none):Same H (upd H p o):=fun b u e=>by
 rw [aG (aQ e h)]
 exact e
theorem br {H H':Hp} {D:Addr} {o:HO} (h:H D=none) (s:Same H H'):Same H (upd H' D o):=fun b u e=>by
 rw [aG (aQ e h)]
 exact s b u e
theorem Bg.div {x y:Int} (h:Big x):Big (x / y):=zq (j1 x y) h
section
variable {P:Program} {w:World} {K:PySem.W.Frag} {mg:Str→Option Value} {base:Heap}
def eZ (K:PySem.W.Frag):Sp:=fun vs H Q _=>∃(p q:Addr) (a b c d:Int),vs= [.ref p, .ref q]∧SqT K H p [.int a, .int b]∧SqT K H q [.int c, .int d]∧
 (0 < b∧0 < d∧Big a∧Big b∧Big c∧Big d)∧∀(r:Addr) (H':Hp),H r=none→Same H H'→H' r=some (.tup [.int (pX a b c d), .int (pY a b c d)])→Q (.ref r) H'
theorem nR {vs:List V} {H:Hp} {Q:VK} {E:XK} (h:eZ K vs H Q E):vs.length=2:=by
 obtain ⟨p,q,a,b,c,d,rfl,_⟩:=h
 rfl
theorem scP:aD ["one","other","shared","top","divisor"] ["one","other"] (ah jP):=⟨rfl,rfl,rfl,by decide +kernel,rfl,by decide +kernel,by decide +kernel⟩
theorem vq {f fC:Addr} {fd fdC:FuncData} (F:Fun K "plus" "plus" jP f fd) (FC:Fun K "common_divisor" "common_divisor" sCd fC fdC) (bC:Binds K fdC ["one","other"] []) (mC:mg "common_divisor"=some (.ref fC)) (B:Blt mg):
 FnOk P w K mg base CX0 2 f fd ["one","other"] (eZ K):=by
 have GC:FnOk P w K mg base CX0 1 fC fdC ["one","other"] spCd:=tE FC B
 refine F.ok scP (fun vs H Q E h=>nR h) (fun cdv A outer s H vs Q E hr h=> ?_)
 obtain ⟨p,q,a,b,c,d,rfl,hp,hq,⟨b0,d0,sa,sb,sc,sd⟩,k⟩:=h
 refine ⟨_,af (aJ (i:=2) scP.nd rfl (Or.inl rfl) (ai GC hr rfl mC FC.kp bC .nil ak (a8 (aw aq (pv 0) ac fun _ _=>rfl) (a8 (aw aq (pv 1) ac fun _ _=>rfl) a9))))
  (af (aJ (i:=3) scP.nd rfl (Or.inl rfl) (aH bK (aH cM (aw aq (pv 0) ac fun _ _=>rfl) (aH cu (aw aq (pv 1) ac fun _ _=>rfl) (pv 2)))
   (aH cM (aw aq (pv 1) ac fun _ _=>rfl) (aH cu (aw aq (pv 0) ac fun _ _=>rfl) (pv 2)))))
  (af (aJ (i:=4) scP.nd rfl (Or.inl rfl) (ai GC hr rfl mC FC.kp bC .nil ak (a8 (pv 3) (a8 (pv 2) a9))))
  (aj (am (aB (a8 (aH cu (pv 3) (pv 4)) (a8 (aH cM (aH cu (aw aq (pv 0) ac fun _ _=>rfl) (pv 2)) (aH cu (aw aq (pv 1) ac fun _ _=>rfl) (pv 4))) a9))))))),?_⟩
 have g0:(0:Int) < (Int.gcd b d:Int):=by
  have:=zr b (show d≠0 by omega)
  omega
 have gS:Big (Int.gcd b d:Int):=ij sd (by omega)
 have e0:(0:Int) < pE a b c d:=by
  have:=zr (pT a b c d) (show (Int.gcd b d:Int)≠0 by omega)
  unfold pE
  omega
 have eS:Big (pE a b c d):=ij gS (by omega)
 refine ⟨_,rfl,p,_,1, .int b,rfl,rfl,hp,rfl,_,rfl,q,_,1, .int d,rfl,rfl,hq,rfl,b,d,rfl,?_⟩
 refine ⟨_,rfl,p,_,0, .int a,rfl,rfl,hp,rfl,_,rfl,q,_,1, .int d,rfl,rfl,hq,rfl,_,rfl,d,_,rfl,rfl,⟨g0,gS⟩,a,_,rfl,rfl,⟨sa,(Bg.div sd)⟩,_,rfl,q,_,0, .int c,rfl,rfl,hq,rfl,_,rfl,p,_,1, .int b,rfl,rfl,hp,rfl,_,rfl,b,_,rfl,rfl,⟨g0,gS⟩,c,_,rfl,rfl,⟨sc,(Bg.div sb)⟩,_,_,rfl,rfl,?_⟩
 refine ⟨_,rfl,_,rfl,pT a b c d,(Int.gcd b d:Int),rfl,?_⟩
 refine ⟨_,rfl,_,rfl,pT a b c d,pE a b c d,rfl,rfl,⟨e0,eS⟩,_,rfl,p,_,1, .int b,rfl,rfl,hp,rfl,_,rfl,b,_,rfl,rfl,⟨g0,gS⟩,_,rfl,q,_,1, .int d,rfl,rfl,hq,rfl,_,rfl,d,pE a b c d,rfl,rfl,⟨e0,eS⟩,_,_,rfl,rfl,⟨(Bg.div sb),(Bg.div sd)⟩,by show 2≤sizeLine;decide,fun r hr'=> ?_⟩
 exact k r _ hr' (ae hr') aa
def de (K:PySem.W.Frag):Sp:=fun vs H Q _=>∃(p q:Addr) (a b c d:Int),vs= [.ref p, .ref q]∧SqT K H p [.int a, .int b]∧SqT K H q [.int c, .int d]∧
 (0 < b∧0 < d∧Big a∧Big b∧Big c∧Big d)∧∀(r:Addr) (H':Hp),H r=none→Same H H'→H' r=some (.tup [.int (tX a b c d), .int (tY a b c d)])→Q (.ref r) H'
theorem scTi:aD ["one","other","first","second"] ["one","other"] (ah iq):=⟨rfl,rfl,rfl,by decide +kernel,rfl,by decide +kernel,by decide +kernel⟩
theorem sU {f fC:Addr} {fd fdC:FuncData} (F:Fun K "times" "times" iq f fd) (FC:Fun K "common_divisor" "common_divisor" sCd fC fdC) (bC:Binds K fdC ["one","other"] []) (mC:mg "common_divisor"=some (.ref fC)) (B:Blt mg):
 FnOk P w K mg base CX0 2 f fd ["one","other"] (de K):=by
 have GC:FnOk P w K mg base CX0 1 fC fdC ["one","other"] spCd:=tE FC B
 refine F.ok scTi (fun vs H Q E h=> ?_) (fun cdv A outer s H vs Q E hr h=> ?_)
 · obtain ⟨p,q,a,b,c,d,rfl,_⟩:=h
   rfl
 obtain ⟨p,q,a,b,c,d,rfl,hp,hq,⟨b0,d0,sa,sb,sc,sd⟩,k⟩:=h
 refine ⟨_,af (aJ (i:=2) scTi.nd rfl (Or.inl rfl) (ai GC hr rfl mC FC.kp bC .nil ak (a8 (aw aq (pv 0) ac fun _ _=>rfl) (a8 (aw aq (pv 1) ac fun _ _=>rfl) a9))))
  (af (aJ (i:=3) scTi.nd rfl (Or.inl rfl) (ai GC hr rfl mC FC.kp bC .nil ak (a8 (aw aq (pv 1) ac fun _ _=>rfl) (a8 (aw aq (pv 0) ac fun _ _=>rfl) a9))))
  (aj (am (aB (a8 (aH cM (aH cu (aw aq (pv 0) ac fun _ _=>rfl) (pv 2)) (aH cu (aw aq (pv 1) ac fun _ _=>rfl) (pv 3)))
   (a8 (aH cM (aH cu (aw aq (pv 0) ac fun _ _=>rfl) (pv 3)) (aH cu (aw aq (pv 1) ac fun _ _=>rfl) (pv 2))) a9)))))),?_⟩
 have g1:(0:Int) < (Int.gcd a d:Int):=by
  have:=zr a (show d≠0 by omega)
  omega
 have s1:Big (Int.gcd a d:Int):=ij sd (by omega)
 have g2:(0:Int) < (Int.gcd c b:Int):=by
  have:=zr c (show b≠0 by omega)
  omega
 have s2:Big (Int.gcd c b:Int):=ij sb (by omega)
 refine ⟨_,rfl,p,_,0, .int a,rfl,rfl,hp,rfl,_,rfl,q,_,1, .int d,rfl,rfl,hq,rfl,a,d,rfl,?_⟩
 refine ⟨_,rfl,q,_,0, .int c,rfl,rfl,hq,rfl,_,rfl,p,_,1, .int b,rfl,rfl,hp,rfl,c,b,rfl,?_⟩
 refine ⟨_,rfl,p,_,0, .int a,rfl,rfl,hp,rfl,_,rfl,a,_,rfl,rfl,⟨g1,s1⟩,_,rfl,q,_,0, .int c,rfl,rfl,hq,rfl,_,rfl,c,_,rfl,rfl,⟨g2,s2⟩,_,_,rfl,rfl,⟨Bg.div sa,Bg.div sc⟩,
  _,rfl,p,_,1, .int b,rfl,rfl,hp,rfl,_,rfl,b,_,rfl,rfl,⟨g2,s2⟩,_,rfl,q,_,1, .int d,rfl,rfl,hq,rfl,_,rfl,d,_,rfl,rfl,⟨g1,s1⟩,_,_,rfl,rfl,⟨Bg.div sb,Bg.div sd⟩,by show 2≤sizeLine;decide,fun r hr'=> ?_⟩
 exact k r _ hr' (ae hr') aa
end
end K25
namespace Tre
open PySem PySem.Spec PyProof.Rows L2
section
variable {X:Cx}
def rEqT:R2:=fun x y H Q=>∃ts us,TrAt H x (.tup ts)∧TrAt H y (.tup us)∧(Trs.pure ts∨Trs.pure us)∧Trs.depth ts≤40∧Q (.bl (eqTs ts us)) H
def rNeT:R2:=fun x y H Q=>∃ts us,TrAt H x (.tup ts)∧TrAt H y (.tup us)∧(Trs.pure ts∨Trs.pure us)∧Trs.depth ts≤40∧Q (.bl (!eqTs ts us)) H
theorem mY {pins:List (Addr×Obj)} {σ:L2.St} {H:Hp} {s:Shared} {A:Around} {ts us:List Tr} {vs ws:List V} {as bs:List Value} (I:Inv X pins σ H s) (hu:A.units+42 < cLine) (h1:TrsAt H vs ts) (h2:TrsAt H ws us) (hp:Trs.pure ts∨Trs.pure us) (hd:Trs.depth ts≤40) (r1:Vals vs as) (r2:Vals ws bs)
 (j:Nat) (g1:j < as.toArray.size) (g2:j < bs.toArray.size):SeqAt.EqAt A s as.toArray[j] bs.toArray[j] (eqJ ts us j):=by
 have l1:=h1.len
 have l2:=h2.len
 have l3:=r1.length
 have l4:=r2.length
 have h1':j < as.length:=by simpa using g1
 have h2':j < bs.length:=by simpa using g2
 have t1:ts[j]?=some (ts[j]'(by omega)):=yX _
 have t2:us[j]?=some (us[j]'(by omega)):=yX _
 obtain ⟨v,e1,a1⟩:=h1.get t1
 obtain ⟨w,e2,a2⟩:=h2.get t2
 obtain ⟨u1,e3,q1⟩:=r1.get e1
 obtain ⟨u2,e4,q2⟩:=r2.get e2
 have z1:as.toArray[j]=u1:=by rw [List.getElem_toArray];rw [yX h1'] at e3;exact zu e3
 have z2:bs.toArray[j]=u2:=by rw [List.getElem_toArray];rw [yX h2'] at e4;exact zu e4
 rw [z1,z2,uj t1 t2]
 refine kh I 40 ?_ ?_ a1 a2 q1 q2 (by omega)
 · have:=cm (z7 t1)
   omega
 · rcases hp with hp|hp
   · exact .inl (eR hp (z7 t1))
   · exact .inr (eR hp (z7 t2))
theorem jh (hu:X.A.units+50 < cLine):OpR X (compareOp .Eq) rEqT:=by
 intro pins s σ H x y v u Q I rx ry h
 obtain ⟨ts,us,h1,h2,hp,hd,q⟩:=h
 unfold TrAt at h1 h2
 obtain ⟨a,vs,rfl,g1,k1⟩:=h1
 obtain ⟨b,ws,rfl,g2,k2⟩:=h2
 cases rx
 cases ry
 obtain ⟨as,r1,p1,_⟩:=I.tuple (SqT.of g1)
 obtain ⟨bs,r2,p2,_⟩:=I.tuple (SqT.of g2)
 refine PySem.SeqAt.eq_tupleAt (e:=eqJ ts us) (show s.heap.IsTuple a as.toArray from p1) (show s.heap.IsTuple b bs.toArray from p2) (by omega) (fun j g1 g2=>mY I (by first|omega|(show X.A.units+1+42 < cLine;omega)) k1 k2 hp hd r1 r2 j g1 g2) ?_
 refine ⟨.bl (eqTs ts us),H,I,?_,q⟩
 rw [z5,z5,←r1.length,←r2.length,k1.len,k2.len,←i7]
 rfl
theorem o7 (hu:X.A.units+50 < cLine):OpR X (compareOp .NotEq) rNeT:=by
 intro pins s σ H x y v u Q I rx ry h
 obtain ⟨ts,us,h1,h2,hp,hd,q⟩:=h
 unfold TrAt at h1 h2
 obtain ⟨a,vs,rfl,g1,k1⟩:=h1
 obtain ⟨b,ws,rfl,g2,k2⟩:=h2
 cases rx
 cases ry
 obtain ⟨as,r1,p1,_⟩:=I.tuple (SqT.of g1)
 obtain ⟨bs,r2,p2,_⟩:=I.tuple (SqT.of g2)
 refine SeqAt.RcNeAt.tuples (A:=X.A) (e:=eqJ ts us) (show s.heap.IsTuple a as.toArray from p1) (show s.heap.IsTuple b bs.toArray from p2) (by omega) (fun j g1 g2=>mY I (by show X.A.units+1+42 < cLine;omega) k1 k2 hp hd r1 r2 j g1 g2) X.prog X.w X.xe _ ?_
 refine ⟨.bl (!eqTs ts us),H,I,?_,q⟩
 rw [z5,z5,←r1.length,←r2.length,k1.len,k2.len,←i7]
 rfl
end
end Tre
namespace Tre
open PySem L2
noncomputable def dd1 (acc:List Tr) (t:Tr):List Tr:=match acc.getLast? with
 |none=>acc++ [t]
 |some l=>if eqT l t=true then acc else acc++ [t]
noncomputable def dd (ts:List Tr):List Tr:=ts.foldl dd1 []
theorem fb (ts:List Tr) (t:Tr):dd (ts++ [t])=dd1 (dd ts) t:=by
 unfold dd
 rw [List.foldl_append]
 rfl
theorem vY (acc:List Tr) (t:Tr):(dd1 acc t).length≤acc.length+1:=by
 unfold dd1
 split
 · simp
 · split<;>simp
theorem vX {acc:List Tr} {t u:Tr} (h:u∈dd1 acc t):u∈acc∨u=t:=by
 unfold dd1 at h
 split at h
 · rcases zf.mp h with h|h
   · exact .inl h
   · exact .inr (ze.mp h)
 · split at h
   · exact .inl h
   · rcases zf.mp h with h|h
     · exact .inl h
     · exact .inr (ze.mp h)
end Tre
namespace K25
open PySem L2 Mth Tre
theorem boot_sorted:bootBuiltins "sorted"=some (.builtin "sorted"):=PyProof.Rows.boot_sorted
section
variable {P:Program} {w:World} {K:PySem.W.Frag} {mg:Str→Option Value} {base:Heap}
def wn:Sp:=fun vs H Q _=>∃(l:Addr) (ws:List V) (ts:List Tr),vs= [.ref l]∧H l=some (.lst ws)∧TrsAt H ws ts∧ts.length < 64∧(∀t∈ts,Ty .lt t∧t.depth≤30)∧
 ∀(v:V) (H':Hp) (us:List Tr),Same H H'→us.Perm ts→(∀(i j:Nat) (t u:Tr),i≤j→us[i]?=some t→us[j]?=some u→ltT u t=false)→TrAt H' v (.tup (dd us))→Q v H'
theorem scRow:aD ["literals","row","literal"] ["literals"] (ah sRow):=⟨rfl,rfl,rfl,by decide +kernel,rfl,by decide +kernel,by decide +kernel⟩
theorem xy {f:Addr} {fd:FuncData} (F:Fun K "row_of" "row_of" sRow f fd) (B:Blt mg):FnOk P w K mg base CX0 1 f fd ["literals"] wn:=by
 refine F.ok scRow (fun vs H Q E h=> ?_) (fun cdv A outer s H vs Q E hr h=> ?_)
 · obtain ⟨l,ws,ts,rfl,_⟩:=h
   rfl
 obtain ⟨l,ws,ts,rfl,hl,hT,hn,hty,k⟩:=h
 have hun:=hr.units
 refine ⟨_,af (aJ (i:=1) scRow.nd rfl (Or.inl rfl) (cG a9))
  (af (gv PassesOwn.never rfl (hU (ar (fq (zq (zM (by decide) _) hun)) rfl B.so boot_sorted (a8 (pv 0) a9))) (ax (i:=2) scRow.nd rfl (Or.inl rfl))
   (aj (aP (PW.pt (cP (cj (lY (pv 1) (by intro _;rfl))) (cR (aE (o7 (zq (zM (by decide) _) hun)) (aw bV (pv 1) (cW cq ac) fun _ _=>rfl) (pv 2) (aA _)))))
    (aj (f8 (je PySem.F.plainAttrs_list PySem.F.slot_list_append PySem.F.type_list_append eU (pv 1) (a8 (pv 2) a9)))) au)))
  (aj (am (cn cp rfl B.tu PyProof.Rows.boot_tuple (a8 (pv 1) a9))))),?_⟩
 have hL:(20000:Nat)≤sizeLine:=by decide +kernel
 refine ⟨by show 0≤sizeLine;decide,fun D nD=> ?_⟩
 have s1:Same H (upd H D (.lst [])):=ae nD
 refine ⟨_,rfl,l,ws,ts,rfl,s1 _ _ hl,hT.mono (Kd.of_same s1),hn,fun t m=>⟨re (.inl (hty t m).1),cV (hty t m).1,by have:=(hty t m).2;omega⟩,fun t m u mu=>lO 30 (hty t m).2 (hty t m).1 (hty u mu).1,fun S ws' us nS pm hT' srt=> ?_⟩
 have s2:=ae (o:= .lst ws') nS
 have nS0:=s1.free nS
 have nDS:D≠S:=fun z=>by rw [←z,aa] at nS;cases nS
 have ul:us.length=ts.length:=pm.length_eq
 have wl:=hT'.len
 have hty':∀t∈us,Ty .lt t∧t.depth≤30:=fun t m=>hty t (pm.mem_iff.mp m)
 refine ⟨S,rfl,⟨ws',SqL.of aa⟩,?_⟩
 refine i6 (xs:=ws') (fun i σ H'=>Same H H'∧H' S=some (.lst ws')∧TrsAt H' ws' us∧∃rs vi,σ= [some (.ref l),some (.ref D),vi]∧H' D=some (.lst rs)∧TrsAt H' rs (dd (us.take i))∧(∀t∈dd (us.take i),Ty .lt t∧t.depth≤30)∧(dd (us.take i)).length≤i)
  ⟨s1.trans s2,aa,hT'.mono (Kd.of_same s2),[],none,rfl,s2 _ _ aa,by simp only [zQ];exact .nil,fun t m=>(by simp [dd] at m),by simp [dd]⟩ (fun i σ H' _ p=>SqL.of p.2.1) ?_ ?_
 · rintro i x σ H' ex ⟨sH,hS,hTS,rs,vi,rfl,hD,hR,hRt,hRl⟩
   obtain ⟨u,eu,hu⟩:=hTS.get' ex
   have mu:=z7 eu
   have ilt:i < us.length:=(zd.mp eu).1
   have et:us.take (i+1)=us.take i++ [u]:=by rw [List.take_add_one,eu];rfl
   have rl:=hR.len
   have app:dd1 (dd (us.take i)) u=dd (us.take i)++ [u]→Same H (upd H' D (.lst (rs++ [x])))∧(upd H' D (.lst (rs++ [x]))) S=some (.lst ws')∧TrsAt (upd H' D (.lst (rs++ [x]))) ws' us∧∃rs' vi,[some (V.ref l),some (.ref D),some x]= [some (.ref l),some (.ref D),vi]∧(upd H' D (.lst (rs++ [x]))) D=some (.lst rs')∧TrsAt (upd H' D (.lst (rs++ [x]))) rs' (dd (us.take (i+1)))∧(∀t∈dd (us.take (i+1)),Ty .lt t∧t.depth≤30)∧(dd (us.take (i+1))).length≤i+1:=by
    intro e
    have kd:=Kd.upd (ys:=rs++ [x]) hD
    refine ⟨br nD sH,(aG nDS.symm).trans hS,hTS.mono kd,_,_,rfl,aa,?_,fun t m=> ?_,?_⟩
    · rw [et,fb,e]
      exact TrsAt.app (.cons (hu.mono kd) .nil) (hR.mono kd)
    · rw [et,fb,e] at m
      rcases zf.mp m with m|m
      · exact hRt t m
      · rw [ze.mp m]
        exact hty' u mu
    · rw [et,fb,e,z9]
      simp only [zw,List.length_nil]
      omega
   refine ⟨_,rfl,!rs.isEmpty, .inl ⟨rs,SqL.of hD,rfl⟩,?_⟩
   have w2:=wl
   by_cases z:rs= []
   · have e0:dd (us.take i)= []:=List.length_eq_zero_iff.mp (by rw [←rl,z];rfl)
     rw [z]
     refine iteT ?_
     refine iteT ?_
     refine ⟨_,rfl, .inl ⟨rfl,_,SqL.of hD⟩,_,rfl,D,rs,x,rfl,rfl,hD,by rw [z];show 0 < sizeLine;omega,?_⟩
     exact app (by rw [e0];rfl)
   · have z':rs.isEmpty=false:=by simpa using z
     rw [z']
     refine iteF ?_
     have pos:0 < rs.length:=List.length_pos_iff.mpr z
     obtain ⟨lt_,el⟩:∃lt_,(dd (us.take i))[rs.length - 1]?=some lt_:=⟨(dd (us.take i))[rs.length - 1]'(by omega),yX _⟩
     obtain ⟨y,ey,hy⟩:=hR.get el
     have ml:=z7 el
     have egl:(dd (us.take i)).getLast?=some lt_:=by rw [List.getLast?_eq_getElem?,←rl];exact el
     have eat:atI rs (-1)=some y:=by
      unfold atI ixN
      rw [if_neg (by decide),if_pos (by omega),show (-1+(rs.length:Int)).toNat=rs.length - 1 by omega]
      exact ey
     obtain ⟨yt,yd⟩:=hRt lt_ ml
     obtain ⟨ut,ud⟩:=hty' u mu
     cases yt with
     |lt w1 b1 hw1=>
      cases ut with
      |lt w2 b2 hw2=>
       have pu:=cV (Ty.lt w1 b1 hw1)
       unfold Tr.pure at pu
       unfold Tr.depth at yd
       refine ⟨_,rfl,_,rfl,D,rs,-1,y,rfl,rfl,SqL.of hD,eat,_,rfl,_,_,hy,hu, .inl pu,by omega,_,rfl,?_⟩
       have ed:dd1 (dd (us.take i)) (.tup [w2, .bl b2])=if eqTs [w1, .bl b1] [w2, .bl b2]=true then dd (us.take i) else dd (us.take i)++ [.tup [w2, .bl b2]]:=by
        unfold dd1
        rw [egl]
        simp only [eqT]
        rfl
       cases q:eqTs [w1, .bl b1] [w2, .bl b2] with
       |false=>
        refine iteT ?_
        refine ⟨_,rfl, .inl ⟨rfl,_,SqL.of hD⟩,_,rfl,D,rs,x,rfl,rfl,hD,by omega,?_⟩
        exact app (by rw [ed,q,if_neg zj])
       |true=>
        refine iteF ?_
        have e2:dd (us.take (i+1))=dd (us.take i):=by rw [et,fb,ed,q,if_pos rfl]
        exact ⟨sH,hS,hTS,rs,_,rfl,hD,by rw [e2];exact hR,by rw [e2];exact hRt,by rw [e2];omega⟩
 · rintro σ H' ⟨sH,hS,hTS,rs,vi,rfl,hD,hR,hRt,hRl⟩
   rw [wl,zL] at hR
   refine ⟨_,rfl,D,rs,rfl, .inl ⟨SqL.of hD,fun p np=> ?_⟩⟩
   refine k (.ref p) _ us (sH.trans (ae np)) pm srt ?_
   unfold TrAt
   exact ⟨p,rs,rfl,aa,hR.mono (Kd.of_same (ae np))⟩
end
end K25
namespace L2
open PySem PySem.Spec PyProof.Rows
def uK (J:It) (D:Addr) (tc:TT) (te:TE) (rest:L2.St) (Q:VK) (H1:Hp):Prop:=
 ∃W:Nat→Nat→List V→Hp→Prop,(∃m,W 0 m [] (upd H1 D (.lst [])))∧∀i m acc H2,W i m acc H2→
  (J.stop i H2∧Q (.ref D) H2)∨
  (J.go i H2∧∀x H3,J.yld i H2 x H3→aV 0 x (none::rest) H3 fun σ4 H4=>Ext (none::rest) σ4∧tc σ4 H4 fun b H5=>if b=true then te σ4 H5 fun v H6=>H6 D=some (.lst acc)∧acc.length < sizeLine∧∃m',m' < m∧W (i+1) m' (acc++ [v]) (upd H6 D (.lst (acc++ [v])))
   else∃m',m' < m∧W (i+1) m' acc H5)
theorem qk {mp:List (Option Nat)} {wi:TI} {tc:TT} {te:TE} {σ rest:L2.St} {H:Hp} {Q:VK} (e:subS mp σ=none::rest) (h:wi σ H fun J H1=>∀D,H1 D=none→uK J D tc te rest Q H1):db mp wi (aV 0) tc te σ H Q:=by
 unfold db
 rw [e]
 exact h
def CompS (n i:Nat) (acc:List V) (Pv:Nat→List V→Hp→Prop):Hp→Prop:=fun H5=>∃m',m' < n - i∧(m'=n - (i+1)∧i+1≤n∧Pv (i+1) acc H5)
theorem CompS.mk {n i:Nat} {acc:List V} {Pv:Nat→List V→Hp→Prop} {H5:Hp} (hi:i < n) (h:Pv (i+1) acc H5):CompS n i acc Pv H5:=⟨n - (i+1),by omega,rfl,hi,h⟩
theorem oH {K:PySem.W.Frag} {a D:Addr} {xs:List V} {tc:TT} {te:TE} {rest:L2.St} {Q:VK} {H1:Hp} (Pv:Nat→List V→Hp→Prop) (h0:Pv 0 [] (upd H1 D (.lst [])))
 (hl:∀i acc H,Pv i acc H→SqL K H a xs)
 (hs:∀i x acc H,i < xs.length→xs[i]?=some x→Pv i acc H→tc (some x::rest) H fun b H5=>if b=true then te (some x::rest) H5 (CompN xs.length i D acc Pv) else CompS xs.length i acc Pv H5)
 (hd:∀acc H,Pv xs.length acc H→Q (.ref D) H):uK (Itl K a) D tc te rest Q H1:=by
 refine ⟨fun i m acc H=>m=xs.length - i∧i≤xs.length∧Pv i acc H,⟨xs.length,by simp,zG _,h0⟩,?_⟩
 rintro i m acc H ⟨rfl,hi,p⟩
 by_cases hlt:i < xs.length
 · refine .inr ⟨⟨xs,xs[i],hl i acc H p,by simp [hlt]⟩,fun x H' y=>⟨ext1,?_⟩⟩
   obtain ⟨e,y⟩:=y
   subst e
   exact hs i x acc _ hlt (y xs (hl i acc _ p)) p
 · have e:i=xs.length:=by omega
   subst e
   exact .inl ⟨⟨xs,hl _ acc H p,yZ _⟩,hd acc H p⟩
end L2
namespace K25
open PySem L2 Mth Tre
end K25
namespace Su
open PySem L2 Tre Mth Wd
def rv (p:Fr):Rat:=(p.1:Rat) / (p.2:Rat)
abbrev Sh (p:Fr):Prop:=fu p.1 p.2
theorem ne0 {b:Int} (h:0 < b):(b:Rat)≠0:=by
 simp only [ne_eq,Rat.intCast_eq_zero_iff]
 omega
theorem yo {p q:Fr} (h1:0 < p.2) (h2:0 < q.2):rv p=rv q↔p.1*q.2=q.1*p.2:=by
 have a:=ne0 h1
 have b:=ne0 h2
 unfold rv
 constructor
 · intro h
   have:(p.1:Rat)*q.2=q.1*p.2:=by grind
   exact_mod_cast this
 · intro h
   have:(p.1:Rat)*q.2=q.1*p.2:=by exact_mod_cast h
   grind
theorem iB {p q:Fr} (h1:Sh p) (h2:Sh q) (e:rv p=rv q):p=q:=by
 rw [yo h1.1 h2.1] at e
 obtain ⟨a,b⟩:=p
 obtain ⟨c,d⟩:=q
 obtain ⟨b0,g1⟩:=h1
 obtain ⟨d0,g2⟩:=h2
 dsimp only at*
 have n1:a.natAbs*d.natAbs=c.natAbs*b.natAbs:=by rw [←Int.natAbs_mul,←Int.natAbs_mul,e]
 have g1':Nat.Coprime b.natAbs a.natAbs:=by rw [Nat.coprime_comm];exact g1
 have g2':Nat.Coprime d.natAbs c.natAbs:=by rw [Nat.coprime_comm];exact g2
 have d1:b.natAbs∣d.natAbs:=g1'.dvd_of_dvd_mul_left ⟨c.natAbs,by rw [n1,Nat.mul_comm]⟩
 have d2:d.natAbs∣b.natAbs:=g2'.dvd_of_dvd_mul_left ⟨a.natAbs,by rw [←n1,Nat.mul_comm]⟩
 have e1:=Nat.dvd_antisymm d1 d2
 have e2:b=d:=by omega
 subst e2
 have e3:a=c:=Int.eq_of_mul_eq_mul_right (by omega) e
 rw [e3]
theorem df {p q:Fr} (h1:Sh p) (h2:Sh q):Sh (cK p q):=(pf h1 h2).1
theorem iY {p q:Fr} (h1:Sh p) (h2:Sh q):rv (cK p q)=rv p+rv q:=by
 obtain ⟨s,e⟩:=pf h1 h2
 have a:=ne0 h1.1
 have b:=ne0 h2.1
 have c:=ne0 s.1
 have e':((pX p.1 p.2 q.1 q.2:Int):Rat)*(p.2*q.2)=(p.1*q.2+q.1*p.2)*(pY p.1 p.2 q.1 q.2:Int):=by exact_mod_cast e
 unfold rv cK
 dsimp only
 grind
theorem cy {p q:Fr} (h1:Sh p) (h2:Sh q):Sh (bq p q):=(lR h1 h2).1
theorem hG {p q:Fr} (h1:Sh p) (h2:Sh q):rv (bq p q)=rv p*rv q:=by
 obtain ⟨s,e⟩:=lR h1 h2
 have a:=ne0 h1.1
 have b:=ne0 h2.1
 have c:=ne0 s.1
 have e':((tX p.1 p.2 q.1 q.2:Int):Rat)*(p.2*q.2)=p.1*q.1*(tY p.1 p.2 q.1 q.2:Int):=by exact_mod_cast e
 unfold rv bq
 dsimp only
 grind
theorem kY:Sh zero:=⟨by decide,by decide⟩
theorem rv_zero:rv zero=0:=by
 show ((0:Int):Rat) / ((1:Int):Rat)=0
 have:((0:Int):Rat)=0:=by simp
 rw [this]
 grind
theorem lW {p:Fr} (h:Sh p):rv p=0↔p=zero:=by
 constructor
 · intro e
   exact iB h kY (e.trans rv_zero.symm)
 · rintro rfl
   exact rv_zero
abbrev Pq:=Tr×Fr
def prT (p:Pq):Tr:= .tup [p.1,frT p.2]
open Classical in
noncomputable def tot (t:Tr):List Pq→Rat
 | []=>0
 |p::r=>(if p.1=t then rv p.2 else 0)+tot t r
theorem dQ (t:Tr) (a b:List Pq):tot t (a++b)=tot t a+tot t b:=by
 induction a with
 |nil=>simp only [List.nil_append,tot];grind
 |cons p r ih=>simp only [List.cons_append,tot,ih];grind
open Classical in
theorem ki (t:Tr) (p:Pq):tot t [p]=if p.1=t then rv p.2 else 0:=by
 simp only [tot]
 grind
theorem rk {t:Tr} {a b:List Pq} (h:a.Perm b):tot t a=tot t b:=by
 induction h with
 |nil=>rfl
 |cons x _ ih=>simp only [tot,ih]
 |swap x y l=>simp only [tot];grind
 |trans _ _ h1 h2=>rw [h1,h2]
theorem dk {t:Tr}:∀ {l:List Pq},(∀p∈l,p.1≠t)→tot t l=0
 | [],_=>rfl
 |p::r,h=>by
  simp only [tot]
  rw [if_neg (h p yY),dk fun q m=>h q (z6 _ m)]
  grind
abbrev Asc (us:List Pq):Prop:=us.Pairwise fun a b=>ltT a.1 b.1=true
theorem tN (t:Tr):ltT t t=false:=by
 cases e:ltT t t with
 |false=>rfl
 |true=>exact (hW e).symm.trans e |>.symm
theorem mJ {t u:Tr} (h:ltT t u=true):t≠u:=fun z=>by
 rw [z,tN] at h
 cases h
theorem qC {a b c:Tr} (h1:ltT a b=true) (h2:ltT b c=true):ltT a c=true:=ltT_iff.mpr (fY (ltT_iff.mp h1) (ltT_iff.mp h2))
theorem eA {us:List Pq} (h:Asc us) {p:Pq} (m:p∈us):tot p.1 us=rv p.2:=by
 induction us with
 |nil=>cases m
 |cons q r ih=>
  obtain ⟨h1,h2⟩:=Aa.mp h
  simp only [tot]
  rcases zc.mp m with e|m
  · subst e
    rw [if_pos rfl,dk fun x mx=>(mJ (h1 x mx)).symm]
    grind
  · rw [if_neg (mJ (h1 p m)),ih h2 m]
    grind
structure Can (ps us:List Pq):Prop where
 asc:Asc us
 sh:∀p∈us,Sh p.2∧p.2≠zero
 eq:∀t,tot t us=tot t ps
theorem Can.mem {ps us vs:List Pq} (h1:Can ps us) (h2:Can ps vs) {p:Pq} (m:p∈us):p∈vs:=by
 have e1:=eA h1.asc m
 rw [h1.eq,←h2.eq] at e1
 have n0:rv p.2≠0:=fun z=>(h1.sh p m).2 ((lW (h1.sh p m).1).mp z)
 refine Classical.byContradiction fun no=> ?_
 by_cases q:∀x∈vs,x.1≠p.1
 · rw [dk q] at e1
   exact n0 e1.symm
 · obtain ⟨x,hx⟩:=Classical.not_forall.mp q
   obtain ⟨mx,ex⟩:=Classical.not_imp.mp hx
   have ex:=Classical.not_not.mp ex
   have e2:=eA h2.asc mx
   rw [ex,e1] at e2
   have e3:=iB (h1.sh p m).1 (h2.sh x mx).1 e2
   have:x=p:=Prod.ext ex e3.symm
   rw [this] at mx
   exact no mx
theorem uF:∀ {us vs:List Pq},Asc us→Asc vs→(∀p,p∈us↔p∈vs)→us=vs
 | [],[],_,_,_=>rfl
 | [],b::vs,_,_,h=>by
  have:=(h b).mpr yY
  cases this
 |a::us,[],_,_,h=>by
  have:=(h a).mp yY
  cases this
 |a::us,b::vs,h1,h2,h=>by
  obtain ⟨a1,a2⟩:=Aa.mp h1
  obtain ⟨b1,b2⟩:=Aa.mp h2
  have e:a=b:=by
   rcases zc.mp ((h a).mp yY) with e|m
   · exact e
   · rcases zc.mp ((h b).mpr yY) with e|m'
     · exact e.symm
     · have:=hW (b1 a m)
       rw [a1 b m'] at this
       cases this
  subst e
  rw [uF a2 b2 fun p=> ?_]
  constructor
  · intro m
    rcases zc.mp ((h p).mp (z6 _ m)) with e|m'
    · rw [e] at m
      exact absurd rfl (mJ (a1 a m))
    · exact m'
  · intro m
    rcases zc.mp ((h p).mpr (z6 _ m)) with e|m'
    · rw [e] at m
      exact absurd rfl (mJ (b1 a m))
    · exact m'
theorem Can.uniq {ps us vs:List Pq} (h1:Can ps us) (h2:Can ps vs):us=vs:=uF h1.asc h2.asc fun p=>⟨h1.mem h2,h2.mem h1⟩
theorem Can.to {ps qs us:List Pq} (h:Can ps us) (e:∀t,tot t ps=tot t qs):Can qs us:=⟨h.asc,h.sh,fun t=>(h.eq t).trans (e t)⟩
structure Run (ds us:List Pq):Prop where
 asc:Asc us
 sh:∀p∈us,Sh p.2
 eq:∀t,tot t us=tot t ds
 key:∀p∈us,∃d∈ds,d.1=p.1
theorem Run.nil:Run [] []:=⟨.nil,(fun p m=>by cases m),fun t=>rfl,fun p m=>by cases m⟩
theorem Run.app {ds us:List Pq} {u:Pq} (h:Run ds us) (hl:∀p∈us,ltT p.1 u.1=true) (hs:Sh u.2):Run (ds++ [u]) (us++ [u]):=by
 refine ⟨?_,fun p m=> ?_,fun t=>by rw [dQ,dQ,h.eq],fun p m=> ?_⟩
 · refine Ac.mpr ⟨h.asc,List.pairwise_singleton _ _,fun a ma b mb=> ?_⟩
   rw [ze.mp mb]
   exact hl a ma
 · rcases zf.mp m with m|m
   · exact h.sh p m
   · rw [ze.mp m]
     exact hs
 · rcases zf.mp m with m|m
   · obtain ⟨d,md,e⟩:=h.key p m
     exact ⟨d,zZ _ md,e⟩
   · rw [ze.mp m]
     exact ⟨u,zp _ yY,rfl⟩
theorem Run.add {ds us:List Pq} {t:Tr} {f g:Fr} (h:Run ds (us++ [(t,f)])) (hs:Sh g):Run (ds++ [(t,g)]) (us++ [(t,cK f g)]):=by
 have hf:Sh f:=h.sh (t,f) (zp _ yY)
 obtain ⟨a1,_,a3⟩:=Ac.mp h.asc
 refine ⟨?_,fun p m=> ?_,fun u=> ?_,fun p m=> ?_⟩
 · refine Ac.mpr ⟨a1,List.pairwise_singleton _ _,fun a ma b mb=> ?_⟩
   rw [ze.mp mb]
   exact a3 a ma (t,f) yY
 · rcases zf.mp m with m|m
   · exact h.sh p (zZ _ m)
   · rw [ze.mp m]
     exact df hf hs
 · have e:=h.eq u
   rw [dQ,ki] at e
   rw [dQ,dQ,ki,ki,←e,iY hf hs]
   dsimp only
   by_cases z:t=u
   · simp only [if_pos z];grind
   · simp only [if_neg z];grind
 · rcases zf.mp m with m|m
   · obtain ⟨d,md,e⟩:=h.key p (zZ _ m)
     exact ⟨d,zZ _ md,e⟩
   · rw [ze.mp m]
     exact ⟨(t,g),zp _ yY,rfl⟩
theorem nQ (t:Tr) {us:List Pq} (h:∀p∈us,Sh p.2):tot t (us.filter fun p=>decide (p.2≠zero))=tot t us:=by
 induction us with
 |nil=>rfl
 |cons p r ih=>
  have ih:=ih fun q m=>h q (z6 _ m)
  rw [List.filter_cons]
  by_cases z:p.2=zero
  · have e:decide (p.2≠zero)=false:=by simp [z]
    rw [e,if_neg (by decide),ih]
    simp only [tot,z,rv_zero]
    grind
  · have e:decide (p.2≠zero)=true:=by simp [z]
    rw [e,if_pos rfl]
    simp only [tot,ih]
theorem Run.fin {ps us:List Pq} (h:Run ps us):Can ps (us.filter fun p=>decide (p.2≠zero)):=by
 refine ⟨h.asc.filter _,fun p m=> ?_,fun t=>(nQ t h.sh).trans (h.eq t)⟩
 obtain ⟨m1,m2⟩:=List.mem_filter.mp m
 exact ⟨h.sh p m1,by simpa using m2⟩
theorem vF {p q:Pq} (h:ltT p.1 q.1=true):ltT (prT p) (prT q)=true:=by
 rw [ltT_iff] at h ⊢
 show LtC (.tup (code p.1::_)) (.tup (code q.1::_))
 simp only [LtC,LtCs]
 exact .inl h
theorem vG {p q:Pq} (h:ltT (prT q) (prT p)=false):ltT q.1 p.1=false:=by
 cases e:ltT q.1 p.1 with
 |false=>rfl
 |true=>rw [vF e] at h;cases h
theorem wA {t u:Tr} (h1:ltT u t=false) (h2:eqT t u=false):ltT t u=true:=by
 cases e:ltT t u with
 |true=>rfl
 |false=>rw [oq e h1] at h2;cases h2
theorem yc {t u:Tr} (h1:Ty .tm t) (h2:Ty .tm u) (h:eqT t u=true):t=u:=rg t.depth (yZ _) h1 h2 ((dw t u).mp h)
end Su
namespace Zp
open PySem
inductive Src where
 |lst|tup
def Src.It (k:Src) (h:Heap) (it l:Addr) (i:Nat):Prop:=match k with
 | .lst=>h.IsListIter it l i
 | .tup=>h.IsTupleIter it l i
def Src.Sq (k:Src) (h:Heap) (l:Addr) (xs:Array Value):Prop:=match k with
 | .lst=>h.IsList l xs
 | .tup=>h.IsTuple l xs
theorem eV {k:Src} {h h':Heap} {a l:Addr} {i:Nat} (x:k.It h a l i) (e:∀o,h.get? a=some o→h'.get? a=some o):k.It h' a l i:=by
 cases k
 · exact Heap.IsListIter.at x e
 · exact Heap.IsTupleIter.at x e
theorem lU {k:Src} {h h':Heap} {l:Addr} {xs:Array Value} (x:k.Sq h l xs) (e:∀o,h.get? l=some o→h'.get? l=some o):k.Sq h' l xs:=by
 cases k
 · exact Heap.IsList.at x e
 · exact Heap.IsTuple.at x e
theorem lA {k:Src} {h:Heap} {a l:Addr} {i:Nat} (x:k.It h a l i):∃o,h.get? a=some o∧∀v,o.data≠ .cell v:=by
 cases k
 all_goals
  obtain ⟨o,e,_,d⟩:=x
  exact ⟨o,e,fun v z=>by rw [d] at z;cases z⟩
section
variable {prog:Program} {w:World} {A:Around} {E:Value→Shared→Prop} {s:Shared} {k:Src} {it l:Addr} {i:Nat} {xs:Array Value} {x:Value} {Q:Value→Shared→Prop}
theorem lg (st:k.It s.heap it l i) (sq:k.Sq s.heap l xs) (hx:xs[i]?=some x) (q:∀h',k.It h' it l (i+1)→Heap.SameBut it s.heap h'→Q x {s with heap:=h'}):
 wpAny (model prog w) A (Builtin.SmallTypes.nextOf (.ref it)) Q E s:=by
 cases k
 · exact wpAny_nextOf_list_item st sq hx q
 · obtain ⟨o,e1,e2,e3⟩:=id st
   obtain ⟨p,f1,_,n,f3⟩:=sq
   have ty:=Heap.IsTupleIter.typeIs st
   rw [Builtin.SmallTypes.nextOf]
   refine wpAny_bind (wpAny_callSpecial?_slot (name:=Str.ofString "__next__") ty F.slot_tuple_iterator_next (wpAny_call_entry F.slot_tuple_iterator_next ty F.entry_tuple_iterator_next ?_ (F.args_tuple_iterator_next_1 _)))
   show wpAny _ _ (do let y←field (.ref it) 0;_) _ _ s
   refine wpAny_bind (wpAny_field e1 e3 (x:= .ref l) rfl ?_)
   show wpAny _ _ (if (Value.ref l==Value.none)=true then _ else _) _ _ _
   refine (if_neg (show¬((Value.ref l==Value.none)=true) from zj))▸ ?_
   show wpAny _ _ (do let y←field (.ref it) 1;_) _ _ s
   refine wpAny_bind (wpAny_field e1 e3 (x:= .int i 0) rfl ?_)
   show wpAny _ _ (do let y←seqItems? (.ref l);_) _ _ s
   refine wpAny_bind (wpAny_seqItems f1 f3 ?_)
   simp only [hx,Int.toNat_natCast]
   refine wpAny_bind (wpAny_setField e1 e3 (by simp) (wpAny_pure ⟨x,rfl,wpAny_pure (q _ ?_ (Heap.SameBut.update ..))⟩))
   refine ⟨_,Heap.get?_update_self _ e1 (Obj.isFreed_of_fields (Obj.data_mapFields e3 _)),(Obj.cls_mapFields ..).trans e2,?_⟩
   rw [Obj.data_mapFields e3]
   simp [rawInt]
theorem tG (hh:A.handled=none) (st:k.It s.heap it l i) (sq:k.Sq s.heap l xs) (hx:xs[i]?=none) (q:∀h' e,Heap.ExtBut it s.heap h'→(∃o,h'.get? e=some o∧o.cls= .type "StopIteration")→E (.ref e) {s with heap:=h'}):
 wpAny (model prog w) A (Builtin.SmallTypes.nextOf (.ref it)) Q E s:=by
 cases k
 · exact wpAny_nextOf_list_end hh st sq hx q
 · obtain ⟨o,e1,e2,e3⟩:=id st
   obtain ⟨p,f1,_,n,f3⟩:=sq
   have ty:=Heap.IsTupleIter.typeIs st
   rw [Builtin.SmallTypes.nextOf]
   refine wpAny_bind (wpAny_callSpecial?_slot (name:=Str.ofString "__next__") ty F.slot_tuple_iterator_next (wpAny_call_entry F.slot_tuple_iterator_next ty F.entry_tuple_iterator_next ?_ (F.args_tuple_iterator_next_1 _)))
   show wpAny _ _ (do let y←field (.ref it) 0;_) _ _ s
   refine wpAny_bind (wpAny_field e1 e3 (x:= .ref l) rfl ?_)
   show wpAny _ _ (if (Value.ref l==Value.none)=true then _ else _) _ _ _
   refine (if_neg (show¬((Value.ref l==Value.none)=true) from zj))▸ ?_
   show wpAny _ _ (do let y←field (.ref it) 1;_) _ _ s
   refine wpAny_bind (wpAny_field e1 e3 (x:= .int i 0) rfl ?_)
   show wpAny _ _ (do let y←seqItems? (.ref l);_) _ _ s
   refine wpAny_bind (wpAny_seqItems f1 f3 ?_)
   simp only [hx,Int.toNat_natCast]
   refine wpAny_bind (wpAny_rule (wpAny_bind (wpAny_setField e1 e3 (by simp) ?_)))
   show wpAny _ _ (do let y←newExc (.type "StopIteration") [];_) _ _ _
   refine wpAny_bind ?_
   simp only [newTuple,newExc]
   refine wpAny_bind (wpAny_newObj_type (wpAny_bind (m:=firstArgMember _ _) (wpAny_of_eq (a:=Value.none) (by first|rfl|(simp only [firstArgMember];rfl)) (wpAny_newObj_type ?_ (by size_fits)))) (by size_fits))
   simp only [raiseNew]
   refine wpAny_bind (wpAny_handled ?_)
   first|rw [show A.in1.handled=none from hh]|rw [hh]
   exact wpAny_bind (wpAny_pure (wpAny_throw (q _ _ (((Heap.SameBut.update ..).extBut.push _).push _) ⟨_,Heap.get?_push_size _ rfl,rfl⟩)))
end
open PySem
section
variable {prog:Program} {w:World} {A:Around} {E:Value→Shared→Prop} {s:Shared} {k:Src} {z TI TO i1 i2 l1 l2:Addr} {j:Nat} {xs ys:Array Value} {x y a b:Value}
theorem uL {Q:Value→Shared→Prop} (D:ZipApart z TI TO i1 i2 l1 l2) (hz:IsZip s.heap z TI TO .none) (hI:IsPair s.heap TI (.ref i1) (.ref i2)) (hO:IsPair s.heap TO a b)
 (t1:k.It s.heap i1 l1 j) (t2:k.It s.heap i2 l2 j) (q1:k.Sq s.heap l1 xs) (q2:k.Sq s.heap l2 ys) (ex:xs[j]?=some x) (ey:ys[j]?=some y)
 (q:∀h',IsZip h' z TI TO (rawInt s.heap.objs.size)→IsPair h' TO x y→k.It h' i1 l1 (j+1)→k.It h' i2 l2 (j+1)→IsPair h' s.heap.objs.size x y→h'.objs.size=s.heap.objs.size+1→
  (∀c o,c≠z→c≠TO→c≠i1→c≠i2→s.heap.get? c=some o→h'.get? c=some o)→Q (.ref s.heap.objs.size) {s with heap:=h'}):
 wpAny (model prog w) A (Builtin.«zip.__next__» ⟨[.ref z],[]⟩) (fun r s'=>∃v,r= .done (.ret v)∧Q v s') E s:=by
 show wpAny _ _ (do let u←field (.ref z) 2;_) _ _ _
 refine wpAny_bind (wpAny_field hz rfl (x:= .bool false) rfl ?_)
 show wpAny _ _ (do let u←field (.ref z) 3;_) _ _ _
 refine wpAny_bind (wpAny_field hz rfl (x:= .ref TI) rfl (wpAny_bind (wpAny_seqItems hI rfl ?_)))
 show wpAny _ _ (do let u←Builtin.SmallTypes.ownedTupleIsFree (.ref z);_) _ _ _
 refine wpAny_bind ?_
 rw [Builtin.SmallTypes.ownedTupleIsFree]
 refine wpAny_bind (wpAny_field hz rfl (x:= .none) rfl (wpAny_pure ?_))
 simp only [if_true]
 refine wpAny_bind (wpAny_rule (wpAny_bind (wpAny_field hz rfl (x:= .ref TO) rfl (wpAny_bind (wpAny_setField_rec hz (by simp) fun g1 y1 s1=> ?_)))))
 have y1:IsZip g1 z TI TO .ellipsis:=y1
 refine wpAny_bind ?_
 simp only [List.forIn_cons,List.forIn_nil,List.zipIdx_nil,List.zipIdx_cons]
 refine wpAny_bind (wpAny_bind (wpAny_onRaise ?_))
 show wpAny _ _ (do let u←Builtin.SmallTypes.nextOf (.ref i1);_) _ _ _
 refine wpAny_bind (lg (s:= {s with heap:=g1}) (eV t1 fun o e=>s1.extBut _ o D.i1z e) (lU q1 fun o e=>s1.extBut _ o D.l1z e) ex fun g2 u1 s2=>wpAny_pure ?_)
 have o2:IsPair g2 TO a b:=s2.extBut _ _ D.TOi1 (s1.extBut _ _ D.TOz hO)
 refine wpAny_bind (wpAny_seqItems o2 rfl (wpAny_bind (wpAny_updateSeq_pair (s:= {s with heap:=g2}) o2 fun g3 o3 s3=> ?_)))
 have o3:IsPair g3 TO x b:=o3
 refine wpAny_bind (wpAny_letGo (wpAny_pure (wpAny_bind (wpAny_bind (wpAny_onRaise ?_)))))
 show wpAny _ _ (do let u←Builtin.SmallTypes.nextOf (.ref i2);_) _ _ _
 refine wpAny_bind (lg (s:= {s with heap:=g3}) (eV t2 fun o e=>s3.extBut _ o D.TOi2.symm (s2.extBut _ o D.i12.symm (s1.extBut _ o D.i2z e))) (lU q2 fun o e=>s3.extBut _ o D.l2TO (s2.extBut _ o D.l2i1 (s1.extBut _ o D.l2z e))) ey fun g4 u2 s4=>wpAny_pure ?_)
 have o4:IsPair g4 TO x b:=s4.extBut _ _ D.TOi2 o3
 refine wpAny_bind (wpAny_seqItems o4 rfl (wpAny_bind (wpAny_updateSeq_pair (s:= {s with heap:=g4}) o4 fun g5 o5 s5=> ?_)))
 have o5:IsPair g5 TO x y:=o5
 refine wpAny_bind (wpAny_letGo (wpAny_pure (wpAny_pure (wpAny_bind (wpAny_seqItems o5 rfl (wpAny_bind (wpAny_newTuple ?_)))))))
 have sz:g5.objs.size=s.heap.objs.size:=by rw [s5.1,s4.1,s3.1,s2.1,s1.1]
 have all:∀c o,c≠z→c≠TO→c≠i1→c≠i2→s.heap.get? c=some o→g5.get? c=some o:=fun c o c1 c2 c3 c4 e=>s5.extBut _ _ c2 (s4.extBut _ _ c4 (s3.extBut _ _ c2 (s2.extBut _ _ c3 (s1.extBut _ _ c1 e))))
 have y5:IsZip g5 z TI TO .ellipsis:=s5.extBut _ _ D.TOz.symm (s4.extBut _ _ D.i2z.symm (s3.extBut _ _ D.TOz.symm (s2.extBut _ _ D.i1z.symm y1)))
 have v1:k.It g5 i1 l1 (j+1):=eV u1 fun o e=>s5.extBut _ o D.TOi1.symm (s4.extBut _ o D.i12 (s3.extBut _ o D.TOi1.symm e))
 have v2:k.It g5 i2 l2 (j+1):=eV u2 fun o e=>s5.extBut _ o D.TOi2.symm e
 have lz:z < g5.objs.size:=Heap.lt_size y5
 show wpAny _ _ (do let u←Builtin.SmallTypes.ownedTupleHandOut (.ref z) (.ref g5.objs.size);_) _ _ _
 refine wpAny_bind ?_
 rw [Builtin.SmallTypes.ownedTupleHandOut]
 have y6:IsZip (g5.push {cls:= .type "tuple",data:= .seq #[x,y]}) z TI TO .ellipsis:=Heap.get?_push_of_some _ y5
 refine wpAny_bind (wpAny_setField_rec y6 (by simp) fun g7 y7 s7=> ?_)
 have y7:IsZip g7 z TI TO (rawInt g5.objs.size):=y7
 refine wpAny_setField_rec y7 (by simp) fun g8 y8 s8=> ?_
 have y8:IsZip g8 z TI TO (rawInt g5.objs.size):=y8
 have up:∀c o,c≠z→g5.get? c=some o→g8.get? c=some o:=fun c o n e=>s8.extBut _ _ n (s7.extBut _ _ n (Heap.get?_push_of_some _ e))
 have p8:IsPair g8 g5.objs.size x y:=s8.extBut _ _ (Nat.ne_of_gt lz) (s7.extBut _ _ (Nat.ne_of_gt lz) (Heap.get?_push_size _ rfl))
 have z8:g8.objs.size=g5.objs.size+1:=by rw [s8.1,s7.1,Heap.size_push]
 rw [sz] at y8 p8 z8
 refine wpAny_pure ⟨_,rfl,?_⟩
 show Q (.ref g5.objs.size) _
 rw [sz]
 exact q g8 y8 (up _ _ D.TOz o5) (eV v1 fun o e=>up _ o D.i1z e) (eV v2 fun o e=>up _ o D.i2z e) p8 z8 fun c o c1 c2 c3 c4 e=>up c o c1 (all c o c1 c2 c3 c4 e)
theorem wP {Q:Fin→Shared→Prop} (hh:A.handled=none) (D:ZipApart z TI TO i1 i2 l1 l2) (hz:IsZip s.heap z TI TO .none) (hI:IsPair s.heap TI (.ref i1) (.ref i2)) (hO:IsPair s.heap TO a b)
 (t1:k.It s.heap i1 l1 j) (t2:k.It s.heap i2 l2 j) (q1:k.Sq s.heap l1 xs) (q2:k.Sq s.heap l2 ys) (ends:xs[j]?=none)
 (q:∀h' e,(∀c o,c≠z→c≠TO→c≠i1→c≠i2→s.heap.get? c=some o→h'.get? c=some o)→(∃o,h'.get? e=some o∧o.cls= .type "StopIteration")→E (.ref e) {s with heap:=h'}):
 wpAny (model prog w) A (Builtin.«zip.__next__» ⟨[.ref z],[]⟩) Q E s:=by
 show wpAny _ _ (do let u←field (.ref z) 2;_) _ _ _
 refine wpAny_bind (wpAny_field hz rfl (x:= .bool false) rfl ?_)
 show wpAny _ _ (do let u←field (.ref z) 3;_) _ _ _
 refine wpAny_bind (wpAny_field hz rfl (x:= .ref TI) rfl (wpAny_bind (wpAny_seqItems hI rfl ?_)))
 show wpAny _ _ (do let u←Builtin.SmallTypes.ownedTupleIsFree (.ref z);_) _ _ _
 refine wpAny_bind ?_
 rw [Builtin.SmallTypes.ownedTupleIsFree]
 refine wpAny_bind (wpAny_field hz rfl (x:= .none) rfl (wpAny_pure ?_))
 simp only [if_true]
 refine wpAny_bind (wpAny_rule (wpAny_bind (wpAny_field hz rfl (x:= .ref TO) rfl (wpAny_bind (wpAny_setField_rec hz (by simp) fun g1 y1 s1=> ?_)))))
 have y1:IsZip g1 z TI TO .ellipsis:=y1
 refine wpAny_bind ?_
 simp only [List.forIn_cons,List.forIn_nil,List.zipIdx_nil,List.zipIdx_cons]
 refine wpAny_bind (wpAny_bind (wpAny_onRaise ?_))
 show wpAny _ _ (do let u←Builtin.SmallTypes.nextOf (.ref i1);_) _ _ _
 refine wpAny_bind (tG (s:= {s with heap:=g1}) hh (eV t1 fun o e=>s1.extBut _ o D.i1z e) (lU q1 fun o e=>s1.extBut _ o D.l1z e) ends fun g2 e s2 he=> ?_)
 obtain ⟨oe,e1,e2⟩:=he
 have y2:IsZip g2 z TI TO .ellipsis:=s2 _ _ D.i1z.symm y1
 have ne:e≠z:=fun n=>by subst n;rw [y2] at e1;cases e1;simp at e2
 exact wpAny_setField_rec y2 (by simp) fun g3 _ s3=>q g3 e (fun c o c1 _ c3 _ n=>s3.extBut _ _ c1 (s2 _ _ c3 (s1.extBut _ _ c1 n))) ⟨oe,s3.extBut _ _ ne e1,e2⟩
theorem uN {Q:Option Value→Shared→Prop} (D:ZipApart z TI TO i1 i2 l1 l2) (hz:IsZip s.heap z TI TO .none) (hI:IsPair s.heap TI (.ref i1) (.ref i2)) (hO:IsPair s.heap TO a b)
 (t1:k.It s.heap i1 l1 j) (t2:k.It s.heap i2 l2 j) (q1:k.Sq s.heap l1 xs) (q2:k.Sq s.heap l2 ys) (ex:xs[j]?=some x) (ey:ys[j]?=some y)
 (q:∀h',IsZip h' z TI TO (rawInt s.heap.objs.size)→IsPair h' TO x y→k.It h' i1 l1 (j+1)→k.It h' i2 l2 (j+1)→IsPair h' s.heap.objs.size x y→h'.objs.size=s.heap.objs.size+1→
  (∀c o,c≠z→c≠TO→c≠i1→c≠i2→s.heap.get? c=some o→h'.get? c=some o)→Q (some (.ref s.heap.objs.size)) {s with heap:=h'}):
 wpAny (model prog w) A (pyNext (.ref z)) Q E s:=by
 have ty:s.TypeIs (.ref z) "zip":=⟨_,hz,rfl⟩
 rw [pyNext]
 exact wpAny_bind (wpAny_attempt (wpAny_callSpecial?_slot (name:=Str.ofString "__next__") ty F.slot_zip_next (wpAny_call_entry F.slot_zip_next ty F.entry_zip_next
  (uL D hz hI hO t1 t2 q1 q2 ex ey fun h' a1 a2 a3 a4 a5 a6 a7=>wpAny_pure (q h' a1 a2 a3 a4 a5 a6 a7)) (F.args_zip_next_1 _))))
theorem wQ {Q:Option Value→Shared→Prop} (hh:A.handled=none) (D:ZipApart z TI TO i1 i2 l1 l2) (hz:IsZip s.heap z TI TO .none) (hI:IsPair s.heap TI (.ref i1) (.ref i2)) (hO:IsPair s.heap TO a b)
 (t1:k.It s.heap i1 l1 j) (t2:k.It s.heap i2 l2 j) (q1:k.Sq s.heap l1 xs) (q2:k.Sq s.heap l2 ys) (ends:xs[j]?=none)
 (q:∀h',(∀c o,c≠z→c≠TO→c≠i1→c≠i2→s.heap.get? c=some o→h'.get? c=some o)→Q none {s with heap:=h'}):wpAny (model prog w) A (pyNext (.ref z)) Q E s:=by
 have ty:s.TypeIs (.ref z) "zip":=⟨_,hz,rfl⟩
 rw [pyNext]
 refine wpAny_bind (wpAny_attempt (wpAny_callSpecial?_slot (name:=Str.ofString "__next__") ty F.slot_zip_next (wpAny_call_entry F.slot_zip_next ty F.entry_zip_next (wP hh D hz hI hO t1 t2 q1 q2 ends fun h' e up he=> ?_) (F.args_zip_next_1 _))))
 obtain ⟨o,e1,e2⟩:=he
 exact wpAny_bind (wpAny_isInstance (T:="StopIteration") (b:=true) ⟨o,e1,e2⟩ isSubtype_stop (wpAny_pure (q _ up)))
end
open PySem
abbrev zA (h:Heap) (l:Addr):Heap:=h.push {cls:= .type "tuple_iterator",data:= .fields #[.ref l, .int 0 0]}
abbrev zB (h:Heap) (l m:Addr):Heap:=zA (zA h l) m
abbrev zC (h:Heap) (l m:Addr):Heap:=(zB h l m).push {cls:= .type "tuple",data:= .seq #[.ref h.objs.size, .ref (zA h l).objs.size]}
abbrev zD (h:Heap) (l m:Addr):Heap:=(zC h l m).push {cls:= .type "tuple",data:= .seq #[.none, .none]}
abbrev zE (h:Heap) (l m:Addr):Heap:=(zD h l m).push {cls:= .type "zip",data:= .fields #[.none, .bool false, .bool false, .ref (zB h l m).objs.size, .ref (zC h l m).objs.size]}
theorem vy (l m:Addr) (xs ys:Array Value):Meets (Builtin.«zip.__new__» ⟨[.type "zip", .ref l, .ref m],[]⟩) (fun _ R s=>s.heap.IsTuple l xs∧s.heap.IsTuple m ys∧
 R (.ok (.ret (.ref (zD s.heap l m).objs.size))) {s with heap:=zE s.heap l m}):=
 .of_wp fun prog w A R s h=>by
  obtain ⟨hp,g,d,tk,os⟩:=s
  obtain ⟨p1,p2,h⟩:=h
  have hsub:=sub_zip
  have p1:Heap.IsTuple (Shared.heap ⟨hp,g,d,tk,os⟩) l xs:=p1
  have p2:Heap.IsTuple (Shared.heap ⟨zA hp l,g,d,tk,os⟩) m ys:=Heap.IsTuple.at p2 fun o e=>Heap.get?_push_of_some _ e
  wp_walk using wpAny_pyIter_tuple p1,wpAny_pyIter_tuple p2
  exact ⟨_,rfl,h⟩
section
variable {prog:Program} {w:World} {A:Around} {E:Value→Shared→Prop} {s:Shared}
theorem nG {k:Src} {l m:Addr} {xs ys:Array Value} {Q:Value→Shared→Prop} (p1:k.Sq s.heap l xs) (p2:k.Sq s.heap m ys)
 (q:∀h',IsZip h' (s.heap.objs.size+4) (s.heap.objs.size+2) (s.heap.objs.size+3) .none→IsPair h' (s.heap.objs.size+2) (.ref s.heap.objs.size) (.ref (s.heap.objs.size+1))→
  IsPair h' (s.heap.objs.size+3) .none .none→k.It h' s.heap.objs.size l 0→k.It h' (s.heap.objs.size+1) m 0→h'.objs.size=s.heap.objs.size+5→
  (∀c o,s.heap.get? c=some o→h'.get? c=some o)→Q (.ref (s.heap.objs.size+4)) {s with heap:=h'}):
 wpAny (model prog w) A (call (.type "zip") [.ref l, .ref m]) Q E s:=by
 cases k
 · exact call_zip_2 p1 p2 q
 · refine callType_new F.called_zip (by decide) (F.typeCall_zip_2 _ _) (F.newCall_zip_2 _ _) (fun obj=>F.args_object_init_3 obj _ _) F.entry_zip_new (vy l m xs ys) ⟨p1,p2,?_⟩
   have a1:(zA s.heap l).objs.size=s.heap.objs.size+1:=Heap.size_push ..
   have a2:(zB s.heap l m).objs.size=s.heap.objs.size+2:=by rw [Heap.size_push,a1]
   have a3:(zC s.heap l m).objs.size=s.heap.objs.size+3:=by rw [Heap.size_push,a2]
   have a4:(zD s.heap l m).objs.size=s.heap.objs.size+4:=by rw [Heap.size_push,a3]
   have a5:(zE s.heap l m).objs.size=s.heap.objs.size+5:=by rw [Heap.size_push,a4]
   have b5:(zE s.heap l m).get? (zD s.heap l m).objs.size=some _:=Heap.get?_push_size _ rfl
   have b4:(zE s.heap l m).get? (zC s.heap l m).objs.size=some _:=Heap.get?_push_of_some _ (Heap.get?_push_size _ rfl)
   have b3:(zE s.heap l m).get? (zB s.heap l m).objs.size=some _:=Heap.get?_push_of_some _ (Heap.get?_push_of_some _ (Heap.get?_push_size _ rfl))
   have b2:(zE s.heap l m).get? (zA s.heap l).objs.size=some _:=Heap.get?_push_of_some _ (Heap.get?_push_of_some _ (Heap.get?_push_of_some _ (Heap.get?_push_size _ rfl)))
   have b1:(zE s.heap l m).get? s.heap.objs.size=some _:=Heap.get?_push_of_some _ (Heap.get?_push_of_some _ (Heap.get?_push_of_some _ (Heap.get?_push_of_some _ (Heap.get?_push_size _ rfl))))
   show _∧_
   rw [a2,a3,a4] at b5
   rw [a1,a2] at b3
   rw [a3] at b4
   rw [a1] at b2
   rw [a4]
   exact ⟨⟨_,b5,rfl⟩,q _ b5 b3 b4 ⟨_,b1,rfl,rfl⟩ ⟨_,b2,rfl,rfl⟩ a5 fun c o e=>Heap.get?_push_of_some _ (Heap.get?_push_of_some _ (Heap.get?_push_of_some _ (Heap.get?_push_of_some _ (Heap.get?_push_of_some _ e))))⟩
end
end Zp
namespace L2
open PySem PySem.Spec PyProof.Rows Zp
def Sqk (k:Src) (K:PySem.W.Frag) (H:Hp) (a:Addr) (xs:List V):Prop:=match k with
 | .lst=>SqL K H a xs
 | .tup=>SqT K H a xs
theorem Inv.sqk {X:Cx} {pins:List (Addr×Obj)} {σ:St} {H:Hp} {s:Shared} {k:Src} {a:Addr} {xs:List V} (I:Inv X pins σ H s) (h:Sqk k X.K H a xs):∃its:List Value,Vals xs its∧k.Sq s.heap a its.toArray∧xs.length≤sizeLine:=by
 cases k
 · obtain ⟨its,r,p,z⟩:=I.list h
   exact ⟨its,r,p.isList,z⟩
 · obtain ⟨its,r,p,z⟩:=I.tuple h
   exact ⟨its,r,p,z⟩
theorem Inv.sqk_inj {X:Cx} {pins:List (Addr×Obj)} {σ:St} {H:Hp} {s:Shared} {k:Src} {a:Addr} {xs ys:List V} (I:Inv X pins σ H s) (h:Sqk k X.K H a xs) (h':Sqk k X.K H a ys):xs=ys:=by
 cases k
 · exact I.list_inj h h'
 · exact I.tuple_inj h h'
def Itz (k:Src) (K:PySem.W.Frag) (a b:Addr):It:=
 ⟨fun i H=>∃xs ys x y,Sqk k K H a xs∧Sqk k K H b ys∧xs[i]?=some x∧ys[i]?=some y,
  fun i H v H'=>∃T x y,v= .ref T∧H T=none∧H'=upd H T (.tup [x,y])∧(∀xs,Sqk k K H a xs→xs[i]?=some x)∧(∀ys,Sqk k K H b ys→ys[i]?=some y)∧i < sizeLine,
  fun i H=>∃xs ys,Sqk k K H a xs∧Sqk k K H b ys∧xs.length≤i⟩
section
variable {X:Cx} {pins:List (Addr×Obj)} {σ:St} {H:Hp} {s:Shared}
theorem Inv.turneds {h':Heap} {t':Nat} {fp:List Addr} (I:Inv X pins σ H s) (k:∀b o,b∉fp→s.heap.get? b=some o→h'.get? b=some o) (hf:∀b∈fp,FpOk X pins H b):Inv X pins σ H {s with heap:=h',toks:=t'}:=by
 refine I.call' (s':= {s with heap:=h',toks:=t'}) (ch:=fp) rfl ⟨fun b o e _ _ hx=>k b o hx e,fun b o e _ _ hx=>⟨o.slots,k b o hx e⟩,fun _ _ _ n _=>n,fun b o e hx=>⟨o,k b o hx e⟩,fun _ _ e=>e,fun _ _ _ e=>e,fun b ps e=>⟨#[],by rw [e];simp⟩⟩ ?_ I.bare fun b hb=> ?_
 · intro b o e
   have nb:∀c u,H c=some u→c∉fp:=fun c u e z=>by rw [(hf c z).1] at e;cases e
   refine (I.hok b o e).stay (fun c v hc q=>k c v ?_ q) (fun _ q=>q) fun _ _ q=>q
   rcases hc with z|z
   · rw [z];exact nb b o e
   · exact nb c _ z
 · obtain ⟨g0,g1,g2,g3,g4,g5⟩:=hf b hb
   exact ⟨g3,g1,g4,g5⟩
end
theorem dj {P:Program} {w:World} {K:PySem.W.Frag} {es:List Expr} {kk:Nat} {pos:Pos} {k:Src} (a b z TI TO i1 i2:Addr) (hd: [z,TI,TO,i1,i2].Nodup):
 Turn P w K (.Tuple es kk pos) (Itz k K a b) [z,TI,TO,i1,i2] z (fun i h=>IsZip h z TI TO .none∧IsPair h TI (.ref i1) (.ref i2)∧(∃u v,IsPair h TO u v)∧k.It h i1 a i∧k.It h i2 b i∧a∉ [z,TI,TO,i1,i2]∧b∉ [z,TI,TO,i1,i2]) where
 mem:=by simp
 obj:=fun i h ⟨h1,h2,⟨u,v,h3⟩,h4,h5,_⟩ c hc=>by
  simp only [zc,zv,or_false] at hc
  rcases hc with rfl|rfl|rfl|rfl|rfl
  · exact ⟨_,h1,fun v e=>by cases (show Data.fields _=Data.cell v from e)⟩
  · exact ⟨_,h2,fun v e=>by cases (show Data.seq _ _=Data.cell v from e)⟩
  · exact ⟨_,h3,fun v e=>by cases (show Data.seq _ _=Data.cell v from e)⟩
  · exact lA h4
  · exact lA h5
 keep:=fun i h h' ⟨h1,h2,⟨u,v,h3⟩,h4,h5,h6⟩ kp=>⟨kp z (by simp) _ h1,kp TI (by simp) _ h2,⟨u,v,kp TO (by simp) _ h3⟩,eV h4 fun o e=>kp i1 (by simp) o e,eV h5 fun o e=>kp i2 (by simp) o e,h6⟩
 item:=by
  intro X hP hw hK hc i pins s σ H E I hf ⟨h1,h2,⟨u0,v0,h3⟩,h4,h5,h6,h7⟩ hg
  subst hP hw hK
  obtain ⟨xs,ys,x,y,g1,g2,g3,g4⟩:=hg
  obtain ⟨as,r1,p1,z1⟩:=I.sqk g1
  obtain ⟨bs,r2,p2,z2⟩:=I.sqk g2
  obtain ⟨u,e1,q1⟩:=r1.get g3
  obtain ⟨v,e2,q2⟩:=r2.get g4
  simp only [zU,zc,zv,or_false,not_or,List.nodup_nil,and_true,not_false_eq_true] at hd h6 h7
  obtain ⟨⟨d1,d2,d3,d4⟩,⟨d5,d6,d7⟩,⟨d8,d9⟩,d10⟩:=hd
  have D:ZipApart z TI TO i1 i2 a b:=⟨Ne.symm d1,Ne.symm d2,Ne.symm d3,Ne.symm d4,d5,d6,d7,d8,d9,d10,h6.1,h6.2.2.1,h6.2.2.2.1,h6.2.2.2.2,h7.1,h7.2.2.1,h7.2.2.2.1,h7.2.2.2.2⟩
  refine uN D h1 h2 h3 h4 h5 p1 p2 (x:=u) (y:=v) (by simpa using e1) (by simpa using e2) fun h' a1 a2 a3 a4 a5 a6 up=>⟨_,rfl,?_⟩
  refine wpAny_letOwnedTupleGo_zip (s:= {s with heap:=h'}) a1 fun h'' b1 sb=> ?_
  have T:=s.heap.objs.size
  have fr:H s.heap.objs.size=none:=I.hok.fresh (yZ _)
  have lt:∀ {c:Addr} {o:Obj},s.heap.get? c=some o→c≠s.heap.objs.size:=fun e=>zg (Heap.lt_size e)
  have all:∀c o,c∉ [z,TI,TO,i1,i2]→s.heap.get? c=some o→h''.get? c=some o:=fun c o n e=>by
   simp only [zc,zv,or_false,not_or] at n
   exact sb.extBut c o n.1 (up c o n.1 n.2.2.1 n.2.2.2.1 n.2.2.2.2 e)
  have nz:s.heap.objs.size≠z:=(lt h1).symm
  have pT:IsPair h'' s.heap.objs.size u v:=sb.extBut _ _ nz a5
  have fp:∀b∈ [z,TI,TO,i1,i2],upd H s.heap.objs.size (.tup [x,y]) b=none:=fun c hc=>by
   have nc:c≠s.heap.objs.size:=by
    simp only [zc,zv,or_false] at hc
    rcases hc with rfl|rfl|rfl|rfl|rfl
    · exact lt h1
    · exact lt h2
    · exact lt h3
    · obtain ⟨o,e,_⟩:=lA h4
      exact lt e
    · obtain ⟨o,e,_⟩:=lA h5
      exact lt e
   rw [aG nc]
   exact (hf c hc).1
  refine ⟨.ref s.heap.objs.size,upd H s.heap.objs.size (.tup [x,y]),?_,rfl,⟨_,x,y,rfl,fr,rfl,fun zs hz=> ?_,fun zs hz=> ?_,zl (zd.mp g3).1 z1⟩,⟨b1,?_,⟨u,v,?_⟩,?_,?_,?_,?_⟩,fp⟩
  ·
   refine I.call' (s':= {s with heap:=h''}) (ch:= [z,TI,TO,i1,i2]) rfl ⟨fun b o e _ _ hx=>all b o hx e,fun b o e _ _ hx=>⟨o.slots,all b o hx e⟩,fun c o e n _=>by rw [aG (lt e)];exact n,fun b o e hx=>⟨o,all b o hx e⟩,fun c zs e=>by rw [aG (aQ e fr)];exact e,fun c o zs e=>by rw [aG (aQ e fr)];exact e,fun c ps e=>⟨#[],by rw [aG (aQ e fr),e];simp⟩⟩ ?_ I.bare fun b hb=> ?_
   · intro c o e
     by_cases hcT:c=s.heap.objs.size
     · subst hcT
       rw [aa] at e
       cases e
       exact ⟨by show 2≤sizeLine;decide,[u,v], .cons q1 (.cons q2 .nil),⟨_,pT,rfl,_,rfl⟩⟩
     · rw [aG hcT] at e
       have nb:∀c u,H c=some u→c∉ [z,TI,TO,i1,i2]:=fun c u e hz=>by rw [(hf c hz).1] at e;cases e
       refine (I.hok c o e).stay (fun d v hc q=>all d v ?_ q) (fun d q=> ?_) fun d m q=> ?_
       · rcases hc with hz|hz
         · rw [hz];exact nb c o e
         · exact nb d _ hz
       · rw [aG (aQ q fr)];exact q
       · rw [aG (aQ q fr)];exact q
   · obtain ⟨g0,g1,g2,g3,g4,g5⟩:=hf b hb
     exact ⟨g3,g1,g4,g5⟩
  · rw [I.sqk_inj hz g1];exact g3
  · rw [I.sqk_inj hz g2];exact g4
  · exact sb.extBut _ _ D.TIz (up _ _ D.TIz D.TITO D.TIi1 D.TIi2 h2)
  · exact sb.extBut _ _ D.TOz a2
  · exact eV a3 fun o e=>sb.extBut _ o D.i1z e
  · exact eV a4 fun o e=>sb.extBut _ o D.i2z e
  · simpa using h6
  · simpa using h7
 done:=by
  intro X hP hw hK hc i pins s σ H E I hf ⟨h1,h2,⟨u0,v0,h3⟩,h4,h5,h6,h7⟩ hg
  subst hP hw hK
  obtain ⟨xs,ys,g1,g2,g3⟩:=hg
  obtain ⟨as,r1,p1,z1⟩:=I.sqk g1
  obtain ⟨bs,r2,p2,z2⟩:=I.sqk g2
  have hl:=r1.length
  simp only [zU,zc,zv,or_false,not_or,List.nodup_nil,and_true,not_false_eq_true] at hd h6 h7
  obtain ⟨⟨d1,d2,d3,d4⟩,⟨d5,d6,d7⟩,⟨d8,d9⟩,d10⟩:=hd
  have D:ZipApart z TI TO i1 i2 a b:=⟨Ne.symm d1,Ne.symm d2,Ne.symm d3,Ne.symm d4,d5,d6,d7,d8,d9,d10,h6.1,h6.2.2.1,h6.2.2.2.1,h6.2.2.2.2,h7.1,h7.2.2.1,h7.2.2.2.1,h7.2.2.2.2⟩
  refine wQ (I.ok.hd hc) D h1 h2 h3 h4 h5 p1 p2 (by simp;omega) fun h' up=>⟨rfl,I.turneds (t':=s.toks) (fun c o n e=> ?_) hf⟩
  simp only [zc,zv,or_false,not_or] at n
  exact up c o n.1 n.2.2.1 n.2.2.2.1 n.2.2.2.2 e
 self:=fun _ _ _ _ _ st h=>wpAny_pyIter_zip st.1 h
section
variable {X:Cx}
def iZip (k:Src) (K:PySem.W.Frag) (ta:TA):TI:=fun σ H R=>ta σ H fun vs H1=>∃a b xs ys,vs= [.ref a, .ref b]∧Sqk k K H1 a xs∧Sqk k K H1 b ys∧R (Itz k K a b) H1
theorem sO {k:Src} {es:List Expr} {kk:Nat} {pt:Pos} {x y:Expr} {ta:TA} {p pos:Pos} (hg:Gl X "zip") (hm:X.mg "zip"=none) (ha:PA X [x,y] ta) (hs:starEach [x,y] X.env= [(false,eval x X.env),(false,eval y X.env)]:=by rfl) (hs2:starEach [y] X.env= [(false,eval y X.env)]:=by rfl):
 PI X (.Tuple es kk pt) (.Call (.Name "zip" p) [x,y] [] pos) (iZip k X.K ta):=by
 intro pins s σ H R I h
 refine Call_ (gy I hg hm PyProof.Rows.boot_zip (PyProof.Rows.callWith_type1 (thn (ha pos pins s σ H _ I h) fun us s1 ⟨vs,H1,I1,r1,q1⟩=> ?_) (by rw [hs,hs2]) (by rw [hs2];rfl)))
 obtain ⟨a,b,xs,ys,e,k1,k2,q⟩:=q1
 subst e
 cases r1 with
 |cons r rr=>
  cases rr with
  |cons r' rr=>
   cases rr
   cases r
   cases r'
   obtain ⟨as,_,p1,_⟩:=I1.sqk k1
   obtain ⟨bs,_,p2,_⟩:=I1.sqk k2
   refine nG p1 p2 fun h' hz hI hO t1 t2 sz up=> ?_
   refine wpAny_pyIter_zip (s:= {s1 with heap:=h'}) hz ?_
   have lta:a < s1.heap.objs.size:=by
    cases k
    · obtain ⟨o,e,_⟩:=p1
      exact Heap.lt_size e
    · obtain ⟨o,e,_⟩:=p1
      exact Heap.lt_size e
   have ltb:b < s1.heap.objs.size:=by
    cases k
    · obtain ⟨o,e,_⟩:=p2
      exact Heap.lt_size e
    · obtain ⟨o,e,_⟩:=p2
      exact Heap.lt_size e
   have na:∀j,a≠s1.heap.objs.size+j:=fun j=>zg (zl lta (A8 ..))
   have nb:∀j,b≠s1.heap.objs.size+j:=fun j=>zg (zl ltb (A8 ..))
   have le:∀c∈ [s1.heap.objs.size+4,s1.heap.objs.size+2,s1.heap.objs.size+3,s1.heap.objs.size+0,s1.heap.objs.size+1],s1.heap.objs.size≤c:=fun c hc=>by
    simp only [zc,zv,or_false] at hc
    rcases hc with rfl|rfl|rfl|rfl|rfl<;>exact A8 ..
   refine ⟨s1.heap.objs.size+4,[s1.heap.objs.size+4,s1.heap.objs.size+2,s1.heap.objs.size+3,s1.heap.objs.size+0,s1.heap.objs.size+1],_,_,H1,rfl,I1.kept (t':=s1.toks) up,dj a b _ _ _ _ _ (by simp),⟨hz,hI,⟨_,_,hO⟩,t1,t2,?_,?_⟩,fun c hc=>I1.fpOk (le c hc) (I1.hok.fresh (le c hc)),q⟩
   · simp only [zc,zv,or_false,not_or]
     exact ⟨na 4,na 2,na 3,na 0,na 1⟩
   · simp only [zc,zv,or_false,not_or]
     exact ⟨nb 4,nb 2,nb 3,nb 0,nb 1⟩
end
open PySem PySem.Spec PyProof.Rows Zp
section
variable {X:Cx}
def wD (K:PySem.W.Frag) (ta:TA):TI:=fun σ H R=>iZip .lst K ta σ H R∨iZip .tup K ta σ H R
theorem vg {es:List Expr} {kk:Nat} {pt:Pos} {x y:Expr} {ta:TA} {p pos:Pos} (hg:Gl X "zip") (hm:X.mg "zip"=none) (ha:PA X [x,y] ta) (hs:starEach [x,y] X.env= [(false,eval x X.env),(false,eval y X.env)]:=by rfl) (hs2:starEach [y] X.env= [(false,eval y X.env)]:=by rfl):
 PI X (.Tuple es kk pt) (.Call (.Name "zip" p) [x,y] [] pos) (wD X.K ta):=fun pins s σ H R I h=>h.elim (sO (k:= .lst) hg hm ha hs hs2 pins s σ H R I) (sO (k:= .tup) hg hm ha hs hs2 pins s σ H R I)
end
theorem ux {k:Src} {K K':PySem.W.Frag} {a b:Addr} {mp:List (Option Nat)} {ta:TA} {te:TE} {Q:VK} {σ rest:L2.St} {H1:Hp} {xs ys:List V} (e:subS mp σ=none::none::rest) (hl:ys.length=xs.length)
 (ha:∀Q:List V→Hp→Prop,Q [.ref a, .ref b] H1→ta σ H1 Q) (h1:Sqk k K H1 a xs) (h2:Sqk k K H1 b ys)
 (h:∀D,H1 D=none→∃Pv:Nat→List V→Hp→Prop,Pv 0 [] (upd H1 D (.lst []))∧(∀i acc H,Pv i acc H→Sqk k K H a xs∧Sqk k K H b ys)∧
  (∀i T x y acc H,i < xs.length→i < sizeLine→Pv i acc H→xs[i]?=some x→ys[i]?=some y→H T=none→te (some x::some y::rest) (upd H T (.tup [x,y])) (CompN xs.length i D acc Pv))∧∀acc H,Pv xs.length acc H→Q (.ref D) H):
 db mp (wD K ta) (gTup K' 2 (bQ (aV 0) (bQ (aV 1) gNil))) cA te σ H1 Q:=by
 unfold db
 rw [e]
 have main:iZip k K ta σ H1 fun J H1=>∀D,H1 D=none→
  ∃W:Nat→Nat→List V→Hp→Prop,(∃m,W 0 m [] (upd H1 D (.lst [])))∧∀i m acc H2,W i m acc H2→(J.stop i H2∧Q (.ref D) H2)∨
  (J.go i H2∧∀x H3,J.yld i H2 x H3→gTup K' 2 (bQ (aV 0) (bQ (aV 1) gNil)) x (none::none::rest) H3 fun σ4 H4=>Ext (none::none::rest) σ4∧cA σ4 H4 fun b H5=>if b=true then te σ4 H5 fun v H6=>H6 D=some (.lst acc)∧acc.length < sizeLine∧∃m',m' < m∧W (i+1) m' (acc++ [v]) (upd H6 D (.lst (acc++ [v])))
  else∃m',m' < m∧W (i+1) m' acc H5):=by
  refine ha _ ⟨a,b,xs,ys,rfl,h1,h2,fun D nD=> ?_⟩
  obtain ⟨Pv,p0,pq,ps,pd⟩:=h D nD
  refine ⟨fun i m acc H=>m=xs.length - i∧i≤xs.length∧Pv i acc H,⟨xs.length,by simp,zG _,p0⟩,?_⟩
  rintro i m acc H ⟨rfl,hi,p⟩
  obtain ⟨q1,q2⟩:=pq i acc H p
  by_cases hlt:i < xs.length
  · refine .inr ⟨⟨xs,ys,xs[i],ys[i],q1,q2,by simp [hlt],by simp [hl,hlt]⟩,?_⟩
    rintro v H' ⟨T,x,y,rfl,nT,rfl,y1,y2,z⟩
    refine ⟨T,[x,y],rfl,SqT.of aa,rfl,x,[y],rfl,y,[],rfl,rfl,ext2,?_⟩
    exact ps i T x y acc H hlt z p (y1 xs q1) (y2 ys q2) nT
  · have ei:i=xs.length:=by omega
    subst ei
    exact .inl ⟨⟨xs,ys,q1,q2,yZ _⟩,pd acc H p⟩
 cases k
 · exact .inl main
 · exact .inr main
section
variable {X:Cx}
theorem iH:∀ {bs:List Bool} {us:List Value},Vals (bs.map V.bl) us→us=bs.map Value.bool
 | [],_,r=>by cases r;rfl
 |b::bs,_,r=>by
  rw [zo] at r
  cases r with
  |cons r1 r2=>rw [iH r2,(show _=Value.bool b from r1)];rfl
theorem eX (hc:X.calm=true):dJ X (.builtin "all") (fun xs H Q=>∃(p:Addr) (bs:List Bool),xs= [.ref p]∧SqL X.K H p (bs.map V.bl)∧Q (.bl (bs.all id)) H):=by
 intro pins s σ H xs us Q I r h
 obtain ⟨p,bs,rfl,hp,q⟩:=h
 obtain ⟨u,rfl,ru⟩:=eJ r
 cases ru
 obtain ⟨its,rv,pl,_⟩:=I.list hp
 have e:=iH rv
 subst e
 have hlt:p < s.heap.objs.size:=by obtain ⟨_,e,_⟩:=pl.isList;exact Heap.lt_size e
 refine call_all_walk (wpAny_pyIter_list pl.isList ⟨s.heap.objs.size,[s.heap.objs.size,p],[s.heap.objs.size],(bs.map Value.bool).toArray.size,_,_,fun i=>(bs[i]?).getD true,rfl,Walks.list (A:=X.A.in1) (I.ok.hd hc) _ p (zg hlt) _,
  ⟨⟨_,Heap.get?_push_size _ rfl,rfl,rfl⟩,pl.isList.push _⟩,fun i v s' Q' E' hP hQ=> ?_,fun h' tk hk=> ?_⟩)
 · have hP':(bs.map Value.bool)[i]?=some v:=by simpa using hP
   rw [zF] at hP'
   obtain ⟨b,e,rfl⟩:=zH.mp hP'
   dsimp only at hQ
   rw [e] at hQ
   exact wpAny_truthy_bool hQ
 · have e:((List.range (bs.map Value.bool).toArray.size).all fun i=>(bs[i]?).getD true)=bs.all id:=by
    rw [z5,yW]
    exact PyProof.Rows.LSm.range_all bs
   rw [e]
   refine ⟨.bl _,H,I.kept (t':=tk) fun b x ex=>hk b x (fun hm=> ?_) (Heap.get?_push_of_some _ ex),rfl,q⟩
   rw [ze.mp hm] at ex
   exact Ae _ (Heap.lt_size ex)
end
end L2
namespace Tre
open PySem L2 Zp
def Sm (H:Hp):Nat→V→V→Prop
 |0,_,_=>False
 |n+1,v,w=>(∃x,v= .str x∧w= .str x)∨(∃i,v= .int i∧w= .int i)∨(∃b,v= .bl b∧w= .bl b)∨(v= .non∧w= .non)∨
  ∃a b xs ys,v= .ref a∧w= .ref b∧((H a=some (.lst xs)∧H b=some (.lst ys))∨(H a=some (.tup xs)∧H b=some (.tup ys)))∧ys.length=xs.length∧∀(j:Nat) x y,xs[j]?=some x→ys[j]?=some y→Sm H n x y
theorem Sm.mono {H H':Hp} (s:Same H H'):∀ {n:Nat} {v w:V},Sm H n v w→Sm H' n v w
 |0,_,_,h=>h.elim
 |n+1,v,w,h=>by
  rcases h with h|h|h|h|⟨a,b,xs,ys,e1,e2,h1,h2,h4⟩
  · exact .inl h
  · exact .inr (.inl h)
  · exact .inr (.inr (.inl h))
  · exact .inr (.inr (.inr (.inl h)))
  · refine .inr (.inr (.inr (.inr ⟨a,b,xs,ys,e1,e2,?_,h2,fun j x y q1 q2=>Sm.mono s (h4 j x y q1 q2)⟩)))
    rcases h1 with ⟨q1,q2⟩|⟨q1,q2⟩
    · exact .inl ⟨s _ _ q1,s _ _ q2⟩
    · exact .inr ⟨s _ _ q1,s _ _ q2⟩
theorem rV {H:Hp} {n:Nat} {vs ws:List V} {ts:List Tr} (h1:TrsAt H vs ts) (h2:TrsAt H ws ts) (h:∀v w t,t∈ts→TrAt H v t→TrAt H w t→Sm H n v w):ws.length=vs.length∧∀(j:Nat) x y,vs[j]?=some x→ws[j]?=some y→Sm H n x y:=by
 have l1:=h1.len
 have l2:=h2.len
 refine ⟨by omega,fun j x y e1 e2=> ?_⟩
 have hj:j < ts.length:=by
  have:=(zd.mp e1).1
  omega
 have t1:ts[j]?=some ts[j]:=yX _
 obtain ⟨v,f1,a1⟩:=h1.get t1
 obtain ⟨w,f2,a2⟩:=h2.get t1
 rw [e1] at f1
 rw [e2] at f2
 cases f1
 cases f2
 exact h x y _ (z7 t1) a1 a2
theorem wo {H:Hp}:∀(n:Nat) {v w:V} {t:Tr},TrAt H v t→TrAt H w t→t.pure→t.depth < n→Sm H n v w
 |0,v,w,t,_,_,_,h=>absurd h (by omega)
 |n+1,v,w, .non,h1,h2,_,_=>by
  unfold TrAt at h1 h2
  exact .inr (.inr (.inr (.inl ⟨h1,h2⟩)))
 |n+1,v,w, .bl b,h1,h2,_,_=>by
  unfold TrAt at h1 h2
  exact .inr (.inr (.inl ⟨b,h1,h2⟩))
 |n+1,v,w, .int i,h1,h2,_,_=>by
  unfold TrAt at h1 h2
  exact .inr (.inl ⟨i,h1,h2⟩)
 |n+1,v,w, .str x,h1,h2,_,_=>by
  unfold TrAt at h1 h2
  exact .inl ⟨x,h1,h2⟩
 |n+1,v,w, .ls,_,_,hp,_=>by
  unfold Tr.pure at hp
  exact hp.elim
 |n+1,v,w, .tup ts,h1,h2,hp,hd=>by
  unfold TrAt at h1 h2
  unfold Tr.pure at hp
  unfold Tr.depth at hd
  obtain ⟨r,vs,rfl,g1,k1⟩:=h1
  obtain ⟨r',ws,rfl,g2,k2⟩:=h2
  obtain ⟨hl,hi⟩:=rV (n:=n) k1 k2 fun v w t m a b=>wo n a b (eR hp m) (by have:=cm m;omega)
  exact .inr (.inr (.inr (.inr ⟨r,r',vs,ws,rfl,rfl, .inr ⟨g1,g2⟩,hl,hi⟩)))
theorem qF (K:PySem.W.Frag):PySem.W.kitAny K (.type "str") [.type "list", .type "tuple"]=some false:=by kernel_rfl
theorem qI (K:PySem.W.Frag):PySem.W.kitAny K (.type "int") [.type "list", .type "tuple"]=some false:=by kernel_rfl
theorem oB (K:PySem.W.Frag):PySem.W.kitAny K (.type "bool") [.type "list", .type "tuple"]=some false:=by kernel_rfl
theorem ot (K:PySem.W.Frag):PySem.W.kitAny K (.type "NoneType") [.type "list", .type "tuple"]=some false:=by kernel_rfl
theorem qE (K:PySem.W.Frag):PySem.W.kitAny K (.type "tuple") [.type "list", .type "tuple"]=some true:=by kernel_rfl
theorem qH (K:PySem.W.Frag):PySem.W.kitAny K (.type "list") [.type "list", .type "tuple"]=some true:=by kernel_rfl
theorem oA (K:PySem.W.Frag):PySem.W.kitOne K (.type "list") (.type "list")=some true:=by kernel_rfl
theorem or (K:PySem.W.Frag):PySem.W.kitOne K (.type "tuple") (.type "list")=some false:=by kernel_rfl
theorem iM (K:PySem.W.Frag):PySem.W.kitOne K (.type "str") (.type "bool")=some false:=by kernel_rfl
theorem jk (K:PySem.W.Frag):PySem.W.kitOne K (.type "str") (.type "str")=some true:=by kernel_rfl
theorem jm (K:PySem.W.Frag):PySem.W.kitOne K (.type "int") (.type "str")=some false:=by kernel_rfl
theorem qG (K:PySem.W.Frag):PySem.W.kitAny K (.type "str") [.type "int", .type "str"]=some true:=by kernel_rfl
theorem qJ (K:PySem.W.Frag):PySem.W.kitAny K (.type "int") [.type "int", .type "str"]=some true:=by kernel_rfl
end Tre
namespace Tre
open PySem PySem.Spec PyProof.Rows L2
section
variable {X:Cx}
theorem uG {H:Hp} {t:Tr} {e:Value→Bool}:∀ {xs:List V} {us:List Value} {ts:List Tr},Vals xs us→TrsAt H xs ts→(∀v u s,RelV v u→TrAt H v s→e u=eqT s t)→us.any e=ts.any fun s=>eqT s t
 |_,_,[],r,h,_=>by
  unfold TrsAt at h
  subst h
  cases r
  rfl
 |_,_,s::ts,r,h,he=>by
  unfold TrsAt at h
  obtain ⟨v,q,rfl,h1,h2⟩:=h
  cases r with
  |cons r1 r2=>rw [List.any_cons,List.any_cons,uG r2 h2 he,he _ _ _ r1 h1]
def uY:V→List V→Hp→VK→Prop:=fun x vs H Q=>∃l xs y j,∃i:Nat,x= .ref l∧vs= [.int j,y]∧j=(i:Int)∧H l=some (.lst xs)∧i≤xs.length∧xs.length < sizeLine∧Q .non (upd H l (.lst (xs.take i++y::xs.drop i)))
theorem xS {its:List Value} {u:Value} {j:Int} {i:Nat} (hj:j=(i:Int)) (hi:i≤its.length):((its.toArray.extract 0 (if j < 0 then (j+(its.toArray.size:Int)).toNat else min j.toNat its.toArray.size)).push u++its.toArray.extract (if j < 0 then (j+(its.toArray.size:Int)).toNat else min j.toNat its.toArray.size))=(its.take i++u::its.drop i).toArray:=by
 have e1:(if j < 0 then (j+(its.toArray.size:Int)).toNat else min j.toNat its.toArray.size)=i:=by
  rw [if_neg (by omega),z5]
  omega
 rw [e1]
 exact PySem.W.kl_ins_eq its i u
theorem qA:MtM X "list.insert" uY:=by
 intro pins s σ H x vs v us Q I rx rv h
 obtain ⟨l,xs,y,j,i,rfl,rfl,hj,hH,hi,hz,q⟩:=h
 cases rx
 obtain ⟨u1,u,rfl,ru1,ru⟩:=rv.two
 obtain ⟨t,rfl⟩:=ru1
 obtain ⟨z,its,n,r,hl,e⟩:=I.lstM hH
 have hL:=fo
 have f1:-(2^63)≤j:=by omega
 have f2:j < 2^63:=by omega
 have nf:¬(!Builtin.List.listFitsIndex j)=true:=by
  rw [fitsIndex_both f1 f2]
  exact zj
 have sz:its.toArray.size≤sizeLine:=by
  rw [z5,←hl]
  exact Nat.le_of_lt hz
 have M:=AutoSeq1.list_insert_list_int_val_1 l its.toArray n j t u nf sz
 refine call_meets F.slot_list_insert ⟨_,e,rfl⟩ F.entry_list_insert (F.args_list_insert_3 _ _ _) M ⟨e,?_⟩
 refine ⟨.non,_,I.lset (its':=its.take i++u::its.drop i) hH e (xS hj (by omega)) ((r.take i).append (.cons ru (r.drop i))) ?_,rfl,q⟩
 rw [z9,zw,zm,zI]
 omega
end
open PySem PySem.Spec PyProof.Rows L2
section
variable {X:Cx}
def SqE (H:Hp) (p:Addr) (xs:List V):Prop:=H p=some (.lst xs)∨H p=some (.tup xs)
def rIn (b:Bool):R2:=fun x y H Q=>∃p xs ts t,y= .ref p∧SqE H p xs∧TrsAt H xs ts∧TrAt H x t∧(∀u∈ts,u.depth≤40)∧t.pure∧Q (.bl ((ts.any fun u=>eqT u t)==b)) H
theorem i5 {pins:List (Addr×Obj)} {s:Shared} {σ:L2.St} {H:Hp} {xs:List V} {ts:List Tr} {t:Tr} {x:V} {v:Value} {its:List Value} (hu:X.A.units+50 < cLine) (I:Inv X pins σ H s) (rx:RelV x v) (r:Vals xs its) (hT:TrsAt H xs ts) (ht:TrAt H x t) (hd:∀u∈ts,u.depth≤40) (hpu:t.pure):
 ∃e:Value→Bool,(∀w,w∈its.toArray→SeqAt.EqAt X.A.in1 s w v (e w))∧its.toArray.any e=ts.any fun s=>eqT s t:=by
 classical
 have he:∀v' u' s',RelV v' u'→TrAt H v' s'→decide (∃v s,RelV v u'∧TrAt H v s∧eqT s t=true)=eqT s' t:=fun v' u' s' r' h'=>by
  cases e:eqT s' t with
  |true=>exact decide_eq_true ⟨v',s',r',h',e⟩
  |false=>
   refine decide_eq_false ?_
   rintro ⟨v2,s2,r2,h2,e2⟩
   cases r2.inj r'
   rw [TrAt.det h2 h',e] at e2
   cases e2
 refine ⟨fun u'=>decide (∃v s,RelV v u'∧TrAt H v s∧eqT s t=true),fun w hw=> ?_,?_⟩
 · have hw':w∈its:=by simpa using hw
   obtain ⟨j,hj,ej⟩:=zX hw'
   have l1:=r.length
   have l2:=hT.len
   have t1:ts[j]?=some (ts[j]'(by omega)):=yX _
   obtain ⟨v',e1,a1⟩:=hT.get t1
   obtain ⟨u',e2,q2⟩:=r.get e1
   rw [yX hj,ej] at e2
   cases e2
   dsimp only
   rw [he _ _ _ q2 a1]
   exact kh I 40 (hd _ (z7 t1)) (.inr hpu) a1 ht q2 rx (by show X.A.units+1+40+1 < cLine;omega)
 · rw [List.any_toArray]
   exact uG r hT he
theorem uE (b:Bool):(b==true)=b:=by cases b<;>rfl
theorem pW (b:Bool):(b==false)= !b:=by cases b<;>rfl
theorem xq (hu:X.A.units+50 < cLine):OpR X (compareOp .In) (rIn true):=by
 intro pins s σ H x y v u Q I rx ry h
 obtain ⟨p,xs,ts,t,rfl,hp,hT,ht,hd,hpu,q⟩:=h
 cases ry
 rcases hp with hp|hp
 · obtain ⟨its,r,pl,hz⟩:=I.list (SqL.of hp)
   obtain ⟨e,h1,h2⟩:=i5 hu I rx r hT ht hd hpu
   refine SeqAt.in_listAt e pl.isList h1 ⟨.bl _,H,I,rfl,?_⟩
   rw [h2,←uE (ts.any fun s=>eqT s t)]
   exact q
 · obtain ⟨its,r,pl,hz⟩:=I.tuple (SqT.of hp)
   obtain ⟨e,h1,h2⟩:=i5 hu I rx r hT ht hd hpu
   refine SeqAt.in_tupleAt e (show s.heap.IsTuple p its.toArray from pl) h1 ⟨.bl _,H,I,rfl,?_⟩
   rw [h2,←uE (ts.any fun s=>eqT s t)]
   exact q
theorem pj (hu:X.A.units+50 < cLine):OpR X (compareOp .NotIn) (rIn false):=by
 intro pins s σ H x y v u Q I rx ry h
 obtain ⟨p,xs,ts,t,rfl,hp,hT,ht,hd,hpu,q⟩:=h
 cases ry
 rcases hp with hp|hp
 · obtain ⟨its,r,pl,hz⟩:=I.list (SqL.of hp)
   obtain ⟨e,h1,h2⟩:=i5 hu I rx r hT ht hd hpu
   refine SeqAt.notIn_listAt e pl.isList h1 ⟨.bl _,H,I,rfl,?_⟩
   rw [h2,←pW (ts.any fun s=>eqT s t)]
   exact q
 · obtain ⟨its,r,pl,hz⟩:=I.tuple (SqT.of hp)
   obtain ⟨e,h1,h2⟩:=i5 hu I rx r hT ht hd hpu
   refine SeqAt.notIn_tupleAt e (show s.heap.IsTuple p its.toArray from pl) h1 ⟨.bl _,H,I,rfl,?_⟩
   rw [h2,←pW (ts.any fun s=>eqT s t)]
   exact q
end
theorem oJ {H:Hp}:∀ {bs:List Bool},TrsAt H (bs.map V.bl) (bs.map Tr.bl)
 | []=> .nil
 |b::bs=> .cons (by unfold TrAt;rfl) oJ
theorem lG (b:Bool):∀bs:List Bool,((bs.map Tr.bl).any fun u=>eqT u (.bl b))=bs.any (· ==b)
 | []=>rfl
 |c::bs=>by
  rw [zo,List.any_cons,List.any_cons,lG b bs]
  simp [eqT]
theorem jZ {bs:List Bool}:∀u∈bs.map Tr.bl,u.depth≤40:=fun u m=>by
 obtain ⟨b,_,rfl⟩:=zx.mp m
 simp [Tr.depth]
end Tre
namespace L2
open PySem PySem.Spec PyProof.Rows
section
variable {X:Cx}
theorem jY (hc:X.calm=true):dJ X (.builtin "any") (fun xs H Q=>∃(p:Addr) (bs:List Bool),xs= [.ref p]∧SqL X.K H p (bs.map V.bl)∧Q (.bl (bs.any id)) H):=by
 intro pins s σ H xs us Q I r h
 obtain ⟨p,bs,rfl,hp,q⟩:=h
 obtain ⟨u,rfl,ru⟩:=eJ r
 cases ru
 obtain ⟨its,rv,pl,_⟩:=I.list hp
 have e:=iH rv
 subst e
 have hlt:p < s.heap.objs.size:=by obtain ⟨_,e,_⟩:=pl.isList;exact Heap.lt_size e
 refine call_any_walk (wpAny_pyIter_list pl.isList ⟨s.heap.objs.size,[s.heap.objs.size,p],[s.heap.objs.size],(bs.map Value.bool).toArray.size,_,_,fun i=>(bs[i]?).getD false,rfl,Walks.list (A:=X.A.in1) (I.ok.hd hc) _ p (zg hlt) _,
  ⟨⟨_,Heap.get?_push_size _ rfl,rfl,rfl⟩,pl.isList.push _⟩,fun i v s' Q' E' hP hQ=> ?_,fun h' tk hk=> ?_⟩)
 · have hP':(bs.map Value.bool)[i]?=some v:=by simpa using hP
   rw [zF] at hP'
   obtain ⟨b,e,rfl⟩:=zH.mp hP'
   dsimp only at hQ
   rw [e] at hQ
   exact wpAny_truthy_bool hQ
 · have e:((List.range (bs.map Value.bool).toArray.size).any fun i=>(bs[i]?).getD false)=bs.any id:=by
    rw [z5,yW]
    exact PyProof.Rows.LSm.range_any bs
   rw [e]
   refine ⟨.bl _,H,I.kept (t':=tk) fun b x ex=>hk b x (fun hm=> ?_) (Heap.get?_push_of_some _ ex),rfl,q⟩
   rw [ze.mp hm] at ex
   exact Ae _ (Heap.lt_size ex)
end
theorem nw {K K':PySem.W.Frag} {a:Addr} {mp:List (Option Nat)} {tl:TE} {te:TE} {Q:VK} {σ rest:L2.St} {H H1:Hp} {xs:List V} (e:subS mp σ=none::none::rest)
 (ha:∀Q:VK,Q (.ref a) H1→tl σ H Q) (h1:SqT K H1 a xs)
 (h:∀D,H1 D=none→∃Pv:Nat→List V→Hp→Prop,Pv 0 [] (upd H1 D (.lst []))∧(∀i acc H,Pv i acc H→SqT K H a xs)∧
  (∀i z acc H,i < xs.length→Pv i acc H→xs[i]?=some z→∃T x y,z= .ref T∧SqT K' H T [x,y]∧te (some x::some y::rest) H (CompN xs.length i D acc Pv))∧∀acc H,Pv xs.length acc H→Q (.ref D) H):
 db mp (iTup K tl) (gTup K' 2 (bQ (aV 0) (bQ (aV 1) gNil))) cA te σ H Q:=by
 unfold db
 rw [e]
 refine ha _ ⟨a,rfl,⟨xs,h1⟩,fun D nD=> ?_⟩
 obtain ⟨Pv,p0,pq,ps,pd⟩:=h D nD
 refine ⟨fun i m acc H=>m=xs.length - i∧i≤xs.length∧Pv i acc H,⟨xs.length,by simp,zG _,p0⟩,?_⟩
 rintro i m acc H ⟨rfl,hi,p⟩
 have q1:=pq i acc H p
 by_cases hlt:i < xs.length
 · refine .inr ⟨⟨xs,xs[i],q1,by simp [hlt]⟩,?_⟩
   rintro v H' ⟨rfl,y⟩
   have ev:=y xs q1
   obtain ⟨T,x,z,rfl,hT,hte⟩:=ps i v acc _ hlt p ev
   exact ⟨T,[x,z],rfl,hT,rfl,x,[z],rfl,z,[],rfl,rfl,ext2,hte⟩
 · have ei:i=xs.length:=by omega
   subst ei
   exact .inl ⟨⟨xs,q1,yZ _⟩,pd acc H p⟩
end L2
namespace Wd
open PySem L2 Tre Mth Dj
section
variable {P:Program} {w:World} {K:PySem.W.Frag} {H H':Hp} {F D C:Addr} {n:Nat}
end
section
variable {P:Program} {w:World} {K:PySem.W.Frag} {H H':Hp} {F D C r:Addr} {n:Nat} {v:V} {W:Wld}
end
end Wd
namespace L2
open PySem Tre Wd
theorem dg {t rest:TS} {Z:Ends} {σ:L2.St} {H:Hp} (R:L2.St→Hp→Prop) (hR:∀σ' H',R σ' H'→rest Z σ' H') (h:∀nx:L2.St→Hp→Prop,(∀σ' H',R σ' H'→nx σ' H')→t {Z with nx:=nx} σ H):tSeq t rest Z σ H:=h _ hR
theorem aR {i:Nat} {v:V} {σ:L2.St} {H:Hp} {k:L2.St→Hp→Prop} (h:k (σ.set i (some v)) H):aV i v σ H k:=h
theorem kj {Z:Ends} {σ:L2.St} {H:Hp} (h:Z.nx σ H):rJ Z σ H:=h
theorem oQ {r:List V→Hp→VK→Prop} {te:TE} {i:Nat} {u:TS} {Z:Ends} {σ:L2.St} {H:Hp} (h:te σ H fun v H1=>r [v] H1 fun x H2=>aV i x σ H2 (u Z)):tSeq (tAsg (tCB r (cO te tNil)) (aV i)) u Z σ H:=h
theorem iR {r:List V→Hp→VK→Prop} {te:TE} {Z:Ends} {σ:L2.St} {H:Hp} (h:te σ H fun v H1=>r [v] H1 Z.rt):tRet (tCB r (cO te tNil)) Z σ H:=h
theorem fw {te:TE} {Z:Ends} {σ:L2.St} {H:Hp} (h:te σ H Z.rt):tRet te Z σ H:=h
theorem km {te:TE} {σ:L2.St} {H:Hp} {Q:List V→Hp→Prop} (h:te σ H fun v H1=>Q [v] H1):cO te tNil σ H Q:=h
theorem nh {H:Hp} {v:V} {x:Str} {r:List Tr} (h:TrAt H v (.tup (.str x::r))):∃a vs,v= .ref a∧H a=some (.tup (.str x::vs))∧TrsAt H vs r:=by
 unfold TrAt at h
 obtain ⟨a,vs,e,h1,h2⟩:=h
 obtain ⟨y,r1,rfl,h3,h4⟩:=h2.inv
 unfold TrAt at h3
 subst h3
 exact ⟨a,r1,e,h1,h4⟩
theorem at2 {H:Hp} {v:V} {k:Str} {t:Tr} (h:TrAt H v (.tup [.str k,t])):∃a y,v= .ref a∧H a=some (.tup [.str k,y])∧TrAt H y t:=by
 obtain ⟨a,vs,e,h1,h2⟩:=nh h
 obtain ⟨y,r,rfl,h3,h4⟩:=h2.inv
 unfold TrsAt at h4
 subst h4
 exact ⟨a,y,e,h1,h3⟩
theorem at3 {H:Hp} {v:V} {k:Str} {t u:Tr} (h:TrAt H v (.tup [.str k,t,u])):∃a y z,v= .ref a∧H a=some (.tup [.str k,y,z])∧TrAt H y t∧TrAt H z u:=by
 obtain ⟨a,vs,e,h1,h2⟩:=nh h
 obtain ⟨y,r,rfl,h3,h4⟩:=h2.inv
 obtain ⟨z,r2,rfl,h5,h6⟩:=h4.inv
 unfold TrsAt at h6
 subst h6
 exact ⟨a,y,z,e,h1,h3,h5⟩
theorem at_t {H:Hp} {v:V} {ts:List Tr} (h:TrAt H v (.tup ts)):∃a vs,v= .ref a∧H a=some (.tup vs)∧TrsAt H vs ts:=by
 unfold TrAt at h
 exact h
theorem aU {H:Hp} {r:Addr} {vs:List V} {ts:List Tr} (h:H r=some (.tup vs)) (h1:TrsAt H vs ts):TrAt H (.ref r) (.tup ts):=by
 unfold TrAt
 exact ⟨r,vs,rfl,h,h1⟩
theorem dY {H:Hp} {v:V} {a b:Tr} (h:TrAt H v (.tup [a,b])):∃r x y,v= .ref r∧H r=some (.tup [x,y])∧TrAt H x a∧TrAt H y b:=by
 unfold TrAt at h
 obtain ⟨r,vs,e,h1,h2⟩:=h
 obtain ⟨x,r1,rfl,h3,h4⟩:=h2.inv
 obtain ⟨y,r2,rfl,h5,h6⟩:=h4.inv
 unfold TrsAt at h6
 subst h6
 exact ⟨r,x,y,e,h1,h3,h5⟩
theorem vK {H:Hp} {v:V} {a b:Int} (h:TrAt H v (.tup [.int a, .int b])):∃r,v= .ref r∧H r=some (.tup [.int a, .int b]):=by
 obtain ⟨r,x,y,e,h1,h2,h3⟩:=dY h
 unfold TrAt at h2 h3
 subst h2 h3
 exact ⟨r,e,h1⟩
theorem cN {H:Hp} {r:Addr} {x y:V} {a b:Tr} (h:H r=some (.tup [x,y])) (h1:TrAt H x a) (h2:TrAt H y b):TrAt H (.ref r) (.tup [a,b]):=by
 unfold TrAt
 exact ⟨r,_,rfl,h, .cons h1 (.cons h2 .nil)⟩
theorem aK {H:Hp} {r:Addr} {a b:Int} (h:H r=some (.tup [.int a, .int b])):TrAt H (.ref r) (.tup [.int a, .int b]):=cN h (by unfold TrAt;rfl) (by unfold TrAt;rfl)
theorem cH {H:Hp} {v:V} {p:Fr} (h:TrAt H v (frT p)):∃r,v= .ref r∧H r=some (.tup [.int p.1, .int p.2]):=vK h
theorem vE {α:Type} (f:α→Bool) (l:List α):(l.map f).any id=l.any f:=by
 rw [List.any_map]
 rfl
end L2
namespace L2
open PySem PySem.Spec PyProof.Rows
section
variable {X:Cx}
def rNeP (K:PySem.W.Frag):R2:=fun x y H Q=>∃(p q:Addr) (a b c d:Int),x= .ref p∧y= .ref q∧SqT K H p [.int a, .int b]∧SqT K H q [.int c, .int d]∧Q (.bl (!decide (a=c∧b=d))) H
theorem sS (hu:X.A.units+1 < cLine):OpR X (compareOp .NotEq) (rNeP X.K):=by
 intro pins s σ H x y v u Q I rx ry h
 obtain ⟨p,q,a,b,c,d,e1,e2,hp,hq,k⟩:=h
 subst e1 e2
 cases (show v=Value.ref p from rx)
 cases (show u=Value.ref q from ry)
 obtain ⟨its,r1,t1,_⟩:=I.tuple hp
 obtain ⟨its2,r2,t2,_⟩:=I.tuple hq
 obtain ⟨u1,u2,rfl,⟨w1,rfl⟩,⟨w2,rfl⟩⟩:=Vals.two r1
 obtain ⟨u3,u4,rfl,⟨w3,rfl⟩,⟨w4,rfl⟩⟩:=Vals.two r2
 refine SeqAt.RcNeAt.tuples (A:=X.A) (e:=fun j=>if j=0 then a==c else b==d) (show s.heap.IsTuple p _ from t1) (show s.heap.IsTuple q _ from t2) (by omega) (fun j h1 h2=> ?_) X.prog X.w X.xe _ ?_
 · match j,h1,h2 with
   |0,_,_=>exact PySem.SeqAt.EqAt.int_int a w1 c w3
   |1,_,_=>exact PySem.SeqAt.EqAt.int_int b w2 d w4
   |j+2,h1,_=>
    have:j+2 < 2:=h1
    omega
 · refine ⟨.bl (!decide (a=c∧b=d)),H,I,?_,k⟩
   show Value.bool (!(((a==c)&& ((b==d)&&true))&&true))=Value.bool (!decide (a=c∧b=d))
   congr 2
   rw [Bool.and_true,Bool.and_true,Ak]
   simp
end
end L2
namespace Tre
open PySem L2
theorem TrsAt.set {H:Hp} {v:V} {t:Tr} (hv:TrAt H v t):∀ {vs:List V} {ts:List Tr} {i:Nat},TrsAt H vs ts→TrsAt H (vs.set i v) (ts.set i t)
 |vs,[],i,h=>by
  unfold TrsAt at h
  subst h
  simp
  exact .nil
 |vs,u::ts,0,h=>by
  obtain ⟨w,r,rfl,h1,h2⟩:=h.inv
  exact .cons hv h2
 |vs,u::ts,i+1,h=>by
  obtain ⟨w,r,rfl,h1,h2⟩:=h.inv
  exact .cons h1 (TrsAt.set hv h2)
theorem rz {t:Tr} (h:Ty .tm t):∃ts,t= .tup ts:=by
 cases h<;>exact ⟨_,rfl⟩
end Tre
namespace Su
open PySem L2 Tre Mth Wd
theorem last_at {α:Type} {rs:List α} {y:α} (pos:0 < rs.length) (ey:rs[rs.length - 1]?=some y):atI rs (-1)=some y:=by
 unfold atI ixN
 rw [if_neg (by decide),if_pos (by omega),show (-1+(rs.length:Int)).toNat=rs.length - 1 by omega]
 exact ey
theorem vH {n:Nat} (pos:0 < n):ixN n (-1)=some (n - 1):=by
 unfold ixN
 rw [if_neg (by decide),if_pos (by omega),show (-1+(n:Int)).toNat=n - 1 by omega]
theorem sP {α β:Type} {f:α→β} {us vs:List β} (h:us.Perm vs):∀ {ps:List α},vs=ps.map f→∃qs:List α,us=qs.map f∧qs.Perm ps:=by
 induction h with
 |nil=>intro ps e;exact ⟨[],rfl,by cases ps with|nil=>exact .nil|cons p ps=>simp at e⟩
 |cons x _ ih=>
  intro ps e
  cases ps with
  |nil=>simp at e
  |cons p ps=>
   rw [zo,Ad] at e
   obtain ⟨qs,e1,e2⟩:=ih e.2
   exact ⟨p::qs,by rw [zo,e1,e.1],e2.cons p⟩
 |swap x y l=>
  intro ps e
  cases ps with
  |nil=>simp at e
  |cons p ps=>
   cases ps with
   |nil=>simp at e
   |cons q ps=>
    simp only [zo,Ad] at e
    obtain ⟨e1,e2,e3⟩:=e
    exact ⟨q::p::ps,by simp only [zo,e1,e2,e3], .swap p q ps⟩
 |trans _ _ h1 h2=>
  intro ps e
  obtain ⟨ms,e1,p1⟩:=h2 e
  obtain ⟨qs,e2,p2⟩:=h1 e1
  exact ⟨qs,e2,p2.trans p1⟩
structure Gq (e:Nat) (p:Pq):Prop where
 ty:Ty .tm p.1
 dep:p.1.depth≤7
 gf:Gf e p.2
 sh:Sh p.2
theorem Gq.mono {m n:Nat} {p:Pq} (h:Gq m p) (hn:m≤n):Gq n p:=⟨h.ty,h.dep,h.gf.mono hn,h.sh⟩
theorem Gq.pr {e:Nat} {p:Pq} (h:Gq e p):Ty .pr (prT p)∧(prT p).depth≤8:=by
 refine ⟨.pr _ _ h.ty (.fr _ _),?_⟩
 have:=h.dep
 unfold prT frT
 simp only [Tr.depth,Trs.depth]
 omega
theorem be {α:Type} {us:List α} {i:Nat} {u:α} (e:us[i]?=some u):us.take (i+1)=us.take i++ [u]:=by
 rw [List.take_add_one,e]
 rfl
theorem vQ {p:Fr}:(!decide (p.1=0∧p.2=1))=decide (p≠zero):=by
 by_cases h:p=zero
 · subst h
   decide
 · have:¬(p.1=0∧p.2=1):=fun q=>h (Prod.ext q.1 q.2)
   simp [this,h]
open PySem L2 Tre Mth Wd
noncomputable def ge (q:Fr) (p:Pq):Pq:=(p.1,bq p.2 q)
def negF (f:Fr):Fr:=(-f.1,f.2)
theorem rX {f:Fr} (h:Sh f):Sh (negF f):=js h
theorem ue {e:Nat} {f:Fr} (h:Gf e f):Gf e (negF f):=⟨h.pos,by show (-f.1).natAbs < _;rw [Int.natAbs_neg];exact h.top,h.bot⟩
open Classical in
theorem jG (t:Tr) {q:Fr} (hq:Sh q) {ps:List Pq} (h:∀p∈ps,Sh p.2):tot t (ps.map (ge q))=tot t ps*rv q:=by
 induction ps with
 |nil=>simp only [List.map_nil,tot];grind
 |cons p r ih=>
  simp only [zo,tot,ih fun x m=>h x (z6 _ m)]
  show (if p.1=t then rv (bq p.2 q) else 0)+_=_
  rw [hG (h p yY) hq]
  by_cases z:p.1=t
  · simp only [if_pos z];grind
  · simp only [if_neg z];grind
theorem w8 {ps:List Pq} (h:Asc ps) (hs:∀p∈ps,Sh p.2):Run ps ps:=⟨h,hs,fun _=>rfl,fun p m=>⟨p,m,rfl⟩⟩
theorem qT {q:Fr} {ps:List Pq} (h:Asc ps):Asc (ps.map (ge q)):=List.pairwise_map.mpr h
def m1:Fr:=(-1,1)
def p1:Fr:=(1,1)
theorem oZ:Sh m1:=⟨by decide,by decide⟩
theorem Can.scaled {q:Fr} (hq:Sh q) {as us:List Pq} (ha:Asc as) (hs:∀p∈as,Sh p.2) (h:Can (as.map (ge q)) us) {e m:Nat} (he:∀p∈as,Gq e p) (hm:Gf m q):∀u∈us,Gq (e+m) u:=by
 have hs':∀p∈as.map (ge q),Sh p.2:=fun p mp=>by
  obtain ⟨x,mx,rfl⟩:=zx.mp mp
  exact cy (hs x mx) hq
 have e1:=h.uniq (w8 (qT ha) hs').fin
 intro u mu
 rw [e1] at mu
 obtain ⟨x,mx,rfl⟩:=zx.mp (List.mem_filter.mp mu).1
 have g:=he x mx
 exact ⟨g.ty,g.dep,g.gf.times hm,cy g.sh hq⟩
end Su
namespace L2
theorem if_f {c:Bool} {p q:Prop} (h:c=false) (hq:q):if c=true then p else q:=by
 rw [h,if_neg (by decide)]
 exact hq
theorem ne_int {a b:Int} (h:a=b):(!decide (V.int a=V.int b))=false:=by
 rw [h,decide_eq_true rfl]
 rfl
theorem if_t {c:Bool} {p q:Prop} (h:c=true) (hp:p):if c=true then p else q:=by
 rw [h,if_pos rfl]
 exact hp
end L2
namespace Tre
open PySem L2
end Tre
namespace K25
open PySem L2 Mth Tre Su
section
variable {P:Program} {w:World} {K:PySem.W.Frag} {mg:Str→Option Value} {base:Heap}
end
end K25
namespace Tre
open PySem L2
end Tre
namespace K25
open PySem L2 Mth Tre
section
variable {P:Program} {w:World} {K:PySem.W.Frag} {mg:Str→Option Value} {base:Heap}
end
open PySem L2 Mth Tre
def TapeAt (H:Hp) (tp c:Addr) (n:Nat):Prop:=
 (c=tp∧∃a z:Int,H tp=some (.lst [.int 1, .int a, .int z]))∨(tp≠c∧∃(cells:List Int) (k:Nat),H tp=some (.lst [.int 0, .ref c, .int (k:Int)])∧H c=some (.lst (cells.map V.int))∧k≤n)
def Keep (tp:Addr) (H H':Hp):Prop:=∀x,x≠tp→H' x=H x
theorem Keep.trans {tp:Addr} {H H1 H2:Hp} (a:Keep tp H H1) (b:Keep tp H1 H2):Keep tp H H2:=fun x h=>(b x h).trans (a x h)
def But (tp:Addr) (H H':Hp):Prop:=∀x o,x≠tp→H x=some o→H' x=some o
theorem But.of_keep {tp:Addr} {H H':Hp} (k:Keep tp H H'):But tp H H':=fun x o h e=>(k x h).trans e
theorem But.of_same {tp:Addr} {H H':Hp} (k:Same H H'):But tp H H':=fun x o _ e=>k x o e
theorem But.trans {tp:Addr} {H H1 H2:Hp} (a:But tp H H1) (b:But tp H1 H2):But tp H H2:=fun x o h e=>b x o h (a x o h e)
theorem TapeAt.lst {H:Hp} {tp c:Addr} {n:Nat} (h:TapeAt H tp c n):∃xs,H tp=some (.lst xs):=by
 rcases h with ⟨_,a,z,h⟩|⟨_,cells,k,h,_⟩
 · exact ⟨_,h⟩
 · exact ⟨_,h⟩
theorem TapeAt.mono {H:Hp} {tp c:Addr} {m n:Nat} (h:TapeAt H tp c m) (hn:m≤n):TapeAt H tp c n:=by
 rcases h with h|⟨h4,cells,k,h1,h2,h3⟩
 · exact .inl h
 · exact .inr ⟨h4,cells,k,h1,h2,by omega⟩
theorem TapeAt.same {H H':Hp} {tp c:Addr} {n:Nat} (h:TapeAt H tp c n) (s:Same H H'):TapeAt H' tp c n:=by
 rcases h with ⟨e,a,z,h⟩|⟨h4,cells,k,h1,h2,h3⟩
 · exact .inl ⟨e,a,z,s _ _ h⟩
 · exact .inr ⟨h4,cells,k,s _ _ h1,s _ _ h2,h3⟩
theorem TapeAt.ne {H:Hp} {tp c r:Addr} {n:Nat} (h:TapeAt H tp c n) (hr:H r=none):r≠tp∧r≠c:=by
 rcases h with ⟨e,a,z,h⟩|⟨h4,cells,k,h1,h2,h3⟩
 · subst e
   exact ⟨(aQ h hr).symm,(aQ h hr).symm⟩
 · exact ⟨(aQ h1 hr).symm,(aQ h2 hr).symm⟩
theorem TapeAt.wr {H:Hp} {tp c D:Addr} {n:Nat} {o:HO} (h:TapeAt H tp c n) (hD:D≠tp∧D≠c):TapeAt (upd H D o) tp c n:=by
 rcases h with ⟨e,a,z,h⟩|⟨h4,cells,k,h1,h2,h3⟩
 · exact .inl ⟨e,a,z,(aG hD.1.symm).trans h⟩
 · exact .inr ⟨h4,cells,k,(aG hD.1.symm).trans h1,(aG hD.2.symm).trans h2,h3⟩
theorem But.free {tp c D:Addr} {H H':Hp} {n:Nat} (b:But tp H H') (x:TapeAt H' tp c n) (h:H' D=none):H D=none:=by
 have n1:=(x.ne h).1
 cases e:H D with
 |none=>rfl
 |some o=>
  rw [b D o n1 e] at h
  cases h
theorem But.wr {tp D:Addr} {H H':Hp} {o:HO} (b:But tp H H') (h:H D=none):But tp H (upd H' D o):=fun x u n1 e=>by
 rw [aG (aQ e h)]
 exact b x u n1 e
theorem But.kd {tp c:Addr} {H H':Hp} {n m:Nat} (b:But tp H H') (x:TapeAt H tp c n) (y:TapeAt H' tp c m):Kd H H':=by
 obtain ⟨xs,e⟩:=x.lst
 obtain ⟨ys,e'⟩:=y.lst
 refine ⟨fun a zs h=>b a _ (fun z=> ?_) h,fun a zs h=> ?_⟩
 · rw [z,e] at h
   cases h
 · by_cases z:a=tp
   · subst z
     exact ⟨ys,e'⟩
   · exact ⟨zs,b a _ z h⟩
theorem ft {m:Int} (h0:0≤m) (h:m≤2^100):Big m:=by
 unfold Big
 have:(2:Nat)^100 < 2^8000:=by decide +kernel
 have e:m.natAbs≤2^100:=by omega
 exact zq e this
section
variable {P:Program} {w:World} {K:PySem.W.Frag} {mg:Str→Option Value} {base:Heap}
def rM (K:PySem.W.Frag):Sp:=fun vs H Q _=>∃(a:Addr) (ns:List Int),vs= [.ref a]∧SqL K H a (ns.map V.int)∧ns.length≤63∧∀(r c:Addr) (H':Hp),H r=none→Same H H'→TapeAt H' r c 0→Q (.ref r) H'
theorem scTp:aD ["_law_script"] ["_law_script"] (ah jM):=⟨rfl,rfl,rfl,by decide +kernel,rfl,by decide +kernel,by decide +kernel⟩
theorem uv (ns:List Int) (lo hi:Option Int):∃ms:List Int,cutV (ns.map V.int) lo hi=ms.map V.int∧ms.length≤ns.length:=by
 refine ⟨(ns.drop (HT.sIx (ns.map V.int).length 0 lo)).take (HT.sIx (ns.map V.int).length (ns.map V.int).length hi - HT.sIx (ns.map V.int).length 0 lo),?_,?_⟩
 · unfold cutV
   rw [List.map_take,List.map_drop]
 · rw [zm,zI]
   omega
theorem vm {f:Addr} {fd:FuncData} (F:Fun K "_law_tape" "_law_tape" jM f fd) (B:Blt mg):FnOk P w K mg base CX0 1 f fd ["_law_script"] (rM K):=by
 refine F.ok scTp (fun vs H Q E h=> ?_) (fun cdv A outer s H vs Q E hr h=> ?_)
 · obtain ⟨a,ns,rfl,_⟩:=h
   rfl
 obtain ⟨a,ns,rfl,hS,hl,k⟩:=h
 refine ⟨_,af (aP (PW.pt (jd (aE gh (ar bp rfl B.le PySem.boot_len (a8 (pv 0) a9)) ac (aA _)) (hJ (aE bY (aH f9 (aw bV (pv 0) ac fun _ _=>rfl) ac) ac (aA _)))))
  (aj (am (cG (a8 ac (a8 (aH cu (aw bV (pv 0) ac fun _ _=>rfl) ac) (a8 ac a9)))))) au)
  (aj (am (cG (a8 ac (a8 (bu oY (pv 0) cg (cf ac)) (a8 ac a9)))))),?_⟩
 have last:(tRet (tLst (cO (tC (.int 0)) (cO (tSl (rSlL K) (tVar 0) iT (oV (tC (.int 63)))) (cO (tC (.int 0)) tNil))))) {nx:=fun _ H'=>Q .non H',rt:=Q} [some (V.ref a)] H:=by
  refine ⟨_,rfl,63,rfl,a,_,rfl,hS,fun c nc=> ?_⟩
  obtain ⟨ms,em,lm⟩:=uv ns none (some 63)
  rw [em]
  refine ⟨by show 3≤sizeLine;decide,fun p np=> ?_⟩
  have s1:Same H (upd H c (.lst (ms.map V.int))):=ae nc
  have s2:Same (upd H c (.lst (ms.map V.int))) (upd (upd H c (.lst (ms.map V.int))) p (.lst [.int 0, .ref c, .int 0])):=ae np
  refine k p c _ (s1.free np) (s1.trans s2) (.inr ⟨fun z=> ?_,ms,0,aa,s2 _ _ aa,yZ _⟩)
  rw [z,aa] at np
  cases np
 refine ⟨_,rfl,a,_,rfl, .inl hS,_,_,rfl,rfl,_,rfl,?_⟩
 rw [yW]
 by_cases z:(0:Int) < (ns.length:Int)
 · rw [decide_eq_true z]
   refine iteT ?_
   have at0:atI (ns.map V.int) 0=some (.int (ns[0]'(by omega))):=fe (j:=0) (by rw [zF,yX (by omega)];rfl)
   refine ⟨_,rfl,a,_,0,_,rfl,rfl,hS,at0,_,_,rfl,rfl,by show (0:Int) < 2;decide,rfl,_,rfl,?_⟩
   refine ite2 (fun _=> ?_) (fun _=>last)
   refine ⟨_,rfl,a,_,0,_,rfl,rfl,hS,at0,_,_,rfl,rfl,⟨by show (0:Int) < 2;decide,by show (2:Int).natAbs < 2^8000;decide +kernel⟩,by show 3≤sizeLine;decide,fun p np=> ?_⟩
   exact k p p _ np (ae np) (.inl ⟨rfl,_,_,aa⟩)
 · rw [decide_eq_false z]
   refine iteF ?_
   refine iteF ?_
   exact last
end
open PySem L2 Mth Tre
theorem xZ {ns:List Int} {i:Int} (h0:0≤i) (h1:i < ns.length):∃z:Int,atI (ns.map V.int) i=some (.int z):=by
 obtain ⟨j,rfl⟩:∃j:Nat,i=(j:Int):=⟨i.toNat,by omega⟩
 have hj:j < ns.length:=by omega
 exact ⟨ns[j],fe (by rw [zF,yX hj];rfl)⟩
section
variable {P:Program} {w:World} {K:PySem.W.Frag} {mg:Str→Option Value} {base:Heap}
def eD:Sp:=fun vs H Q _=>∃(tp c:Addr) (m:Int) (n:Nat),vs= [.ref tp, .int m]∧TapeAt H tp c n∧n≤1000000∧0 < m∧Big m∧∀(r:Int) (H':Hp),0≤r→r < m→TapeAt H' tp c (n+1)→Keep tp H H'→Q (.int r) H'
theorem scDr:aD ["_law_tape_here","_law_many","_law_found","_law_k","_law_cell","_law_stirred"] ["_law_tape_here","_law_many"] (ah gZ):=⟨rfl,rfl,rfl,by decide +kernel,rfl,by decide +kernel,by decide +kernel⟩
theorem iZ {f:Addr} {fd:FuncData} (F:Fun K "_law_draw" "_law_draw" gZ f fd) (B:Blt mg):FnOk P w K mg base CX0 1 f fd ["_law_tape_here","_law_many"] eD:=by
 refine F.ok scDr (fun vs H Q E h=> ?_) (fun cdv A outer s H vs Q E hr h=> ?_)
 · obtain ⟨tp,c,m,n,rfl,_⟩:=h
   rfl
 obtain ⟨tp,c,m,n,rfl,hT,hn,m0,mB,k⟩:=h
 refine ⟨_,af (aP (aE bY (aw bV (pv 0) ac fun _ _=>rfl) ac (aA _))
  (af (aJ (i:=2) scDr.nd rfl (Or.inl rfl) (aH f9 (aw bV (pv 0) ac fun _ _=>rfl) (pv 1)))
  (af (fk (aH cu (aw bV (pv 0) ac fun _ _=>rfl) (pv 1)) (nY (pv 0) ac jc))
  (aj (am (pv 2))))) au)
  (af (aJ (i:=3) scDr.nd rfl (Or.inl rfl) (aw bV (pv 0) ac fun _ _=>rfl))
  (af (fk (aH bK (pv 3) ac) (nY (pv 0) ac jc))
  (af (aJ (i:=4) scDr.nd rfl (Or.inl rfl) ac)
  (af (aP (aE gh (ar bp rfl B.le PySem.boot_len (a8 (aw bV (pv 0) ac fun _ _=>rfl) a9)) ac (aA _))
   (aj (aJ (i:=4) scDr.nd rfl (Or.inl rfl) (aH f9 (aw bV (aw bV (pv 0) ac fun _ _=>rfl) (aH f9 (pv 3) (ar bp rfl B.le PySem.boot_len (a8 (aw bV (pv 0) ac fun _ _=>rfl) a9))) fun _ _=>rfl) ac))) au)
  (af (aJ (i:=5) scDr.nd rfl (Or.inl rfl) (aH f9 (aH cM (aH bK (pv 4) ac) (aH bK (aH bK (aH cM (aH cM ac (pv 3)) (pv 3)) (aH cM ac (pv 3))) ac)) ac))
  (aj (am (aH f9 (aH f9 (aH cM (aH f9 (aH cM (aH bK (pv 5) (pv 3)) ac) ac) ac) ac) (pv 1))))))))),?_⟩
 have bc:∀c:Int,0≤c→c≤2147483647→Big c:=fun c h0 h1=>ft h0 (by omega)
 rcases hT with ⟨ec,a,z,hT⟩|⟨ne,cells,kk,hT,hc,hk⟩
 · refine ⟨_,rfl,tp,_,0, .int 1,rfl,rfl,SqL.of hT,rfl,rfl,_,rfl,?_⟩
   rw [decide_eq_true rfl]
   refine iteT ?_
   refine ⟨_,rfl,tp,_,1, .int a,rfl,rfl,SqL.of hT,rfl,_,rfl,a,m,rfl,rfl,m0,?_⟩
   refine ⟨_,rfl,tp,_,1, .int a,rfl,rfl,SqL.of hT,rfl,_,rfl,a,m,rfl,rfl,⟨m0,mB⟩,_,rfl,tp,_,1,1,rfl,rfl,hT,rfl,?_⟩
   exact ⟨_,rfl,k _ _ (Aj _ (by omega)) (Ab _ m0) (.inl ⟨ec,a / m,z,aa⟩) fun x hx=>aG hx⟩
 · refine ⟨_,rfl,tp,_,0, .int 0,rfl,rfl,SqL.of hT,rfl,rfl,_,rfl,?_⟩
   rw [decide_eq_false (show¬V.int 0=V.int 1 by decide)]
   refine iteF ?_
   refine ⟨_,rfl,tp,_,2, .int (kk:Int),rfl,rfl,SqL.of hT,rfl,?_⟩
   refine ⟨_,rfl,_,_,rfl,rfl,_,rfl,tp,_,2,2,rfl,rfl,hT,rfl,?_⟩
   have hT1:(upd H tp (.lst ([V.int 0, .ref c, .int (kk:Int)].set 2 (.int ((kk:Int)+1))))) tp=some (.lst [.int 0, .ref c, .int ((kk+1:Nat):Int)]):=aa
   have hc1:(upd H tp (.lst ([V.int 0, .ref c, .int (kk:Int)].set 2 (.int ((kk:Int)+1))))) c=some (.lst (cells.map V.int)):=by rw [aG (Ne.symm ne)];exact hc
   have k1:Keep tp H (upd H tp (.lst ([V.int 0, .ref c, .int (kk:Int)].set 2 (.int ((kk:Int)+1))))):=fun x h1=>aG h1
   generalize upd H tp (.lst ([V.int 0, .ref c, .int (kk:Int)].set 2 (.int ((kk:Int)+1))))=H1 at hT1 hc1 k1 ⊢
   have tape1:TapeAt H1 tp c (n+1):= .inr ⟨ne,cells,kk+1,hT1,hc1,by omega⟩
   have b1:Big (kk:Int):=ft (by omega) (by omega)
   have sq:(31*(kk:Int)*(kk:Int))≤31*1000000*1000000:=Int.mul_le_mul (by omega) (by omega) (by omega) (by omega)
   have sq0:(0:Int)≤31*(kk:Int)*(kk:Int):=Int.mul_nonneg (by omega) (by omega)
   have last:∀cell:Int,0≤cell→cell≤2147483629→
    (tSeq (tAsg (tOp (rI (fun _ j=>0 < j) fun i j=> .int (i%j)) (tOp (rI (fun i j=>Big i∧Big j) fun i j=> .int (i*j)) (tOp (rI0 fun i j=> .int (i+j)) (tVar 4) (tC (.int 1))) (tOp (rI0 fun i j=> .int (i+j)) (tOp (rI0 fun i j=> .int (i+j)) (tOp (rI (fun i j=>Big i∧Big j) fun i j=> .int (i*j)) (tOp (rI (fun i j=>Big i∧Big j) fun i j=> .int (i*j)) (tC (.int 31)) (tVar 3)) (tVar 3)) (tOp (rI (fun i j=>Big i∧Big j) fun i j=> .int (i*j)) (tC (.int 7919)) (tVar 3))) (tC (.int 1)))) (tC (.int 2147483647))) (aV 5))
     (tRet (tOp (rI (fun _ j=>0 < j) fun i j=> .int (i%j)) (tOp (rI (fun _ j=>0 < j) fun i j=> .int (i%j)) (tOp (rI (fun i j=>Big i∧Big j) fun i j=> .int (i*j)) (tOp (rI (fun _ j=>0 < j) fun i j=> .int (i%j)) (tOp (rI (fun i j=>Big i∧Big j) fun i j=> .int (i*j)) (tOp (rI0 fun i j=> .int (i+j)) (tVar 5) (tVar 3)) (tC (.int 48271))) (tC (.int 2147483629))) (tC (.int 69621))) (tC (.int 2147483587))) (tVar 1))))
     {nx:=fun _ H'=>Q .non H',rt:=Q} [some (.ref tp),some (.int m),none,some (.int (kk:Int)),some (.int cell),none] H1:=by
    intro cell c0 c1
    refine ⟨_,rfl,_,_,rfl,rfl,_,rfl,31,_,rfl,rfl,⟨bc 31 (by decide) (by decide),b1⟩,_,rfl,_,_,rfl,rfl,⟨ft (by omega) (by omega),b1⟩,_,rfl,7919,_,rfl,rfl,⟨bc 7919 (by decide) (by decide),b1⟩,_,_,rfl,rfl,_,_,rfl,rfl,_,_,rfl,rfl,⟨ft (by omega) (by omega),ft (by omega) (by omega)⟩,_,_,rfl,rfl,by show (0:Int) < 2147483647;decide,?_⟩
    have st0:(0:Int)≤(cell+1)*(31*(kk:Int)*(kk:Int)+7919*(kk:Int)+1)%2147483647:=Aj _ (by decide)
    have st1:(cell+1)*(31*(kk:Int)*(kk:Int)+7919*(kk:Int)+1)%2147483647 < 2147483647:=Ab _ (by decide)
    have u0:∀st:Int,(0:Int)≤(st+(kk:Int))*48271%2147483629:=fun st=>Aj _ (by decide)
    have u1:∀st:Int,(st+(kk:Int))*48271%2147483629≤2^100:=fun st=>by
     have:(st+(kk:Int))*48271%2147483629 < 2147483629:=Ab _ (by decide)
     omega
    refine ⟨_,rfl,_,rfl,_,_,rfl,rfl,_,48271,rfl,rfl,⟨ft (by omega) (by omega),bc 48271 (by decide) (by decide)⟩,_,2147483629,rfl,rfl,by show (0:Int) < 2147483629;decide,_,69621,rfl,rfl,⟨ft (u0 _) (u1 _),bc 69621 (by decide) (by decide)⟩,_,2147483587,rfl,rfl,by show (0:Int) < 2147483587;decide,_,rfl,_,m,rfl,rfl,m0,?_⟩
    exact k _ _ (Aj _ (by omega)) (Ab _ m0) tape1 k1
   refine ⟨_,rfl,tp,_,1, .ref c,rfl,rfl,SqL.of hT1,rfl,c,_,rfl, .inl (SqL.of hc1),_,_,rfl,rfl,_,rfl,?_⟩
   rw [yW]
   by_cases z:(0:Int) < (cells.length:Int)
   · rw [decide_eq_true z]
     refine iteT ?_
     have q0:(0:Int)≤(kk:Int)%(cells.length:Int):=Aj _ (by omega)
     have q1:(kk:Int)%(cells.length:Int) < (cells.length:Int):=Ab _ (by omega)
     obtain ⟨v,ev⟩:=xZ q0 q1
     refine ⟨_,rfl,tp,_,1, .ref c,rfl,rfl,SqL.of hT1,rfl,_,rfl,_,rfl,tp,_,1, .ref c,rfl,rfl,SqL.of hT1,rfl,c,_,rfl, .inl (SqL.of hc1),_,_,rfl,rfl,by rw [yW];omega,c,_,(kk:Int)%(cells.length:Int), .int v,rfl,by rw [yW],SqL.of hc1,ev,_,2147483629,rfl,rfl,by show (0:Int) < 2147483629;decide,?_⟩
     exact last _ (Aj _ (by decide)) (Int.le_of_lt (Ab _ (by decide)))
   · rw [decide_eq_false z]
     refine iteF ?_
     exact last 0 (by decide) (by decide)
end
end K25
namespace L2
open PySem PySem.Spec PyProof.Rows
section
variable {X:Cx}
def rS0 (f:Str→V):V→List V→Hp→VK→Prop:=fun x vs H Q=>∃z,x= .str z∧vs= []∧Q (f z) H
def rS1 (C:Str→Str→Prop) (f:Str→Str→V):V→List V→Hp→VK→Prop:=fun x vs H Q=>∃z y,x= .str z∧vs= [.str y]∧C z y∧Q (f z y) H
theorem og:MtM X "str.isascii" (rS0 fun z=> .bl (Txt.isascii z)):=by
 intro pins s σ H x vs v us Q I rx rv h
 obtain ⟨z,rfl,rfl,q⟩:=h
 obtain ⟨t,rfl⟩:=rx
 cases rv
 exact SC.isascii ⟨.bl _,H,I,rfl,q⟩
end
open PySem PySem.Spec PyProof.Rows
section
variable {X:Cx} {tg:Expr}
end
section
variable {X:Cx} {tg:Expr}
end
open PySem PySem.Spec PyProof.Rows
section
variable {prog:Program} {w:World} {A:Around} {E:Value→Shared→Prop} {s:Shared}
end
section
variable {X:Cx}
end
open PySem PySem.Spec PyProof.Rows
section
variable {X:Cx}
def rSlS:V→Option Int→Option Int→Hp→VK→Prop:=fun x lo hi H Q=>∃(z:Str),x= .str z∧z.length≤sizeLine∧Q (.str (Txt.slice z lo hi)) H
theorem xa:SlR X rSlS:=by
 intro pins s σ H x v vl vu lo hi sl Q I rx hs pl pu h
 obtain ⟨z,rfl,hz,q⟩:=h
 obtain ⟨t,rfl⟩:=rx
 obtain ⟨o,ho,hc,hd⟩:=hs
 refine ⟨"str",_,PySem.F.slot_str_getitem.lookup,typeIs_str _ _ _,?_⟩
 cases pl with
 |none=>
  cases pu with
  |none=>exact wpAny_getItem_str_slice (l:=none) (u:=none) (st:=none) ⟨o,ho,hc,hd⟩ rfl (post_val_or_str ⟨zJ (Txt.slice_le z none none) hz,fun t' k=>⟨.str _,H,I.tok k,⟨_,rfl⟩,q⟩⟩)
  |int j tj=>exact wpAny_getItem_str_slice (l:=none) (u:=some (j,tj)) (st:=none) ⟨o,ho,hc,hd⟩ rfl (post_val_or_str ⟨zJ (Txt.slice_le z none (some j)) hz,fun t' k=>⟨.str _,H,I.tok k,⟨_,rfl⟩,q⟩⟩)
 |int i ti=>
  cases pu with
  |none=>exact wpAny_getItem_str_slice (l:=some (i,ti)) (u:=none) (st:=none) ⟨o,ho,hc,hd⟩ rfl (post_val_or_str ⟨zJ (Txt.slice_le z (some i) none) hz,fun t' k=>⟨.str _,H,I.tok k,⟨_,rfl⟩,q⟩⟩)
  |int j tj=>exact wpAny_getItem_str_slice (l:=some (i,ti)) (u:=some (j,tj)) (st:=none) ⟨o,ho,hc,hd⟩ rfl (post_val_or_str ⟨zJ (Txt.slice_le z (some i) (some j)) hz,fun t' k=>⟨.str _,H,I.tok k,⟨_,rfl⟩,q⟩⟩)
end
open PySem PySem.Spec PyProof.Rows
section
variable {X:Cx}
theorem j6:∀ {ys:List Str} {us:List Value},Vals (ys.map V.str) us→StrsAre us ys
 | [],_,r=>by cases r;exact .nil
 |y::ys,_,r=>by
  rw [zo] at r
  cases r with
  |cons r1 r2=>
   obtain ⟨t,rfl⟩:=r1
   exact .cons y t (j6 r2)
def yq (K:PySem.W.Frag):V→List V→Hp→VK→Prop:=fun x vs H Q=>∃(sep:Str) (l:Addr) (ys:List Str),x= .str sep∧vs= [.ref l]∧SqL K H l (ys.map V.str)∧(ys.map (·.length)).sum+ys.length*sep.length≤16777216∧Q (.str (Txt.join sep ys)) H
theorem vA:MtM X "str.join" (yq X.K):=by
 intro pins s σ H x vs v us Q I rx rv h
 obtain ⟨sep,l,ys,rfl,rfl,hl,hz,q⟩:=h
 obtain ⟨t,rfl⟩:=rx
 obtain ⟨u,rfl,ru⟩:=rv.one
 cases ru
 obtain ⟨its,r,p,_⟩:=I.list hl
 exact PyProof.Rows.join_list p.isList (by simpa using j6 r) hz fun t' k=>⟨.str _,H,I.tok k,⟨_,rfl⟩,q⟩
theorem vB:MtM X "str.find" (rS1 (fun _ _=>True) fun z y=> .int (Txt.find z y)):=by
 intro pins s σ H x vs v us Q I rx rv h
 obtain ⟨z,y,rfl,rfl,_,q⟩:=h
 obtain ⟨t,rfl⟩:=rx
 obtain ⟨u,rfl,ru⟩:=rv.one
 obtain ⟨t',rfl⟩:=ru
 exact SC.find ⟨.int _,H,I.tok _,⟨_,rfl⟩,q⟩
end
end L2
namespace Trm
open PySem
def Ltr (c:Nat):Prop:=97≤c∧c≤122
structure Nm (x:Str):Prop where
 pos:0 < x.length
 le:x.length≤8
 ltr:∀c∈x.cps.toList,Ltr c
end Trm
namespace K25
open PySem L2 Mth Tre
theorem km {te:TE} {σ:L2.St} {H:Hp} {Q:List V→Hp→Prop} (h:te σ H fun v H1=>Q [v] H1):cO te tNil σ H Q:=h
abbrev abc:Str:=Str.ofString "abcdefghijklmnopqrstuvwxyz"
theorem lL:abc.length≤sizeLine:=by decide +kernel
theorem oN {i:Int} (h0:0≤i) (h1:i < 26):∃c,atI abc.cps.toList i=some c:=by
 obtain ⟨j,rfl⟩:∃j:Nat,i=(j:Int):=⟨i.toNat,by omega⟩
 have hl:abc.cps.toList.length=26:=by decide +kernel
 exact ⟨abc.cps.toList[j]'(by omega),fe (yX _)⟩
theorem p9 (x:Str):x.cps.toList.length=x.length:=by simp [Str.length]
theorem fZ (x y:Str):(x++y).length=x.length+y.length:=by
 rw [←p9,←p9,←p9,←z9]
 congr 1
 show (x.cps++y.cps).toList=_
 simp
theorem u9:∀(ys:List Str),(Txt.join (Str.ofString "") ys).length=(ys.map (·.length)).sum:=by
 intro ys
 have e:Txt.join (Str.ofString "") ys=Str.join (Str.ofString "") ys:=StrLaws.glued_eq_join _ _
 have e0:(Str.ofString "").length=0:=by decide +kernel
 rw [e]
 clear e
 induction ys with
 |nil=>rfl
 |cons y ys ih=>
  cases ys with
  |nil=>simp [Str.join]
  |cons z ys=>
   have e2:Str.join (Str.ofString "") (y::z::ys)=y++Str.ofString ""++Str.join (Str.ofString "") (z::ys):=rfl
   rw [e2,fZ,fZ,e0,ih]
   simp
theorem lK:∀c∈abc.cps.toList,Trm.Ltr c:=by
 have:abc.cps.toList.all (fun c=>decide (97≤c∧c≤122))=true:=by decide +kernel
 intro c m
 have:=Ag.mp this c m
 rw [decide_eq_true_iff] at this
 exact this
theorem lH {xs:List Nat} {i:Int} {c:Nat} (h:atI xs i=some c):c∈xs:=by
 unfold atI at h
 obtain ⟨j,_,e⟩:=Option.bind_eq_some_iff.mp h
 exact z7 e
theorem j4 {x y:Str} (h1:∀c∈x.cps.toList,Trm.Ltr c) (h2:∀c∈y.cps.toList,Trm.Ltr c):∀c∈(x++y).cps.toList,Trm.Ltr c:=fun c m=>by
 have m:c∈(x.cps++y.cps).toList:=m
 rw [Array.toList_append] at m
 exact (zf.mp m).elim (h1 c) (h2 c)
theorem u8 {ys:List Str} (h:∀y∈ys,∀c∈y.cps.toList,Trm.Ltr c):∀c∈(Txt.join (Str.ofString "") ys).cps.toList,Trm.Ltr c:=by
 have e:Txt.join (Str.ofString "") ys=Str.join (Str.ofString "") ys:=StrLaws.glued_eq_join _ _
 rw [e]
 clear e
 induction ys with
 |nil=>intro c m;cases m
 |cons y ys ih=>
  cases ys with
  |nil=>exact h y yY
  |cons z ys=>
   have e2:Str.join (Str.ofString "") (y::z::ys)=y++Str.ofString ""++Str.join (Str.ofString "") (z::ys):=rfl
   rw [e2]
   exact j4 (j4 (h y yY) fun c m=>by
    have e0:(Str.ofString "").cps.toList= []:=by decide +kernel
    rw [e0] at m
    cases m) (ih fun u mu=>h u (z6 _ mu))
theorem qo {x:Str} {l u:Option Int} (h:∀c∈x.cps.toList,Trm.Ltr c):∀c∈(Txt.slice x l u).cps.toList,Trm.Ltr c:=fun c m=>by
 unfold Txt.slice at m
 split at m
 · exact h c m
 · obtain ⟨i,_,e⟩:=Ah.mp m
   exact h c (z7 (i:=i) (by simpa using e))
theorem la {d:Nat} (h:Trm.Ltr d):∀c∈(⟨#[d]⟩:Str).cps.toList,Trm.Ltr c:=fun c m=>by
 have:c=d:=by simpa using m
 rw [this]
 exact h
def Names (H:Hp) (nl:Addr):Prop:=∃a b c:Str,H nl=some (.lst [.str a, .str b, .str c])∧Trm.Nm a∧Trm.Nm b∧Trm.Nm c
theorem Names.atN {H:Hp} {nl:Addr} (h:Names H nl) {i:Int} (h0:0≤i) (h3:i < 3):∃xs x,H nl=some (.lst xs)∧atI xs i=some (.str x)∧Trm.Nm x:=by
 obtain ⟨a,b,c,e,n1,n2,n3⟩:=h
 have:i=0∨i=1∨i=2:=by omega
 rcases this with rfl|rfl|rfl
 · exact ⟨_,a,e,rfl,n1⟩
 · exact ⟨_,b,e,rfl,n2⟩
 · exact ⟨_,c,e,rfl,n3⟩
theorem Names.at {H:Hp} {nl:Addr} (h:Names H nl) {i:Int} (h0:0≤i) (h3:i < 3):∃xs x,H nl=some (.lst xs)∧atI xs i=some (.str x):=by
 obtain ⟨a,b,c,e,_⟩:=h
 have:i=0∨i=1∨i=2:=by omega
 rcases this with rfl|rfl|rfl
 · exact ⟨_,a,e,rfl⟩
 · exact ⟨_,b,e,rfl⟩
 · exact ⟨_,c,e,rfl⟩
theorem Names.but {tp nl:Addr} {H H':Hp} (h:Names H nl) (n1:nl≠tp) (b:But tp H H'):Names H' nl:=by
 obtain ⟨x,y,z,e,r⟩:=h
 exact ⟨x,y,z,b _ _ n1 e,r⟩
theorem cz {m:Int} (h0:0≤m) (h:m≤1000000):Big m:=ft h0 (by omega)
theorem tV {z:Str} (h:0 < z.length):∃c,atI z.cps.toList (-1)=some c:=by
 have hl:=p9 z
 refine ⟨z.cps.toList[z.cps.toList.length - 1]'(by omega),Su.last_at (by omega) (yX _)⟩
section
variable {P:Program} {w:World} {K:PySem.W.Frag} {mg:Str→Option Value} {base:Heap}
def oW:Sp:=fun vs H Q _=>∃(tp c:Addr) (n:Nat),vs= [.ref tp]∧TapeAt H tp c n∧n+10≤1000000∧∀(r:Addr) (H':Hp),TapeAt H' tp c (n+10)→But tp H H'→H r=none→Names H' r→Q (.ref r) H'
theorem scNm:aD ["_law_tape_here","_law_letters","_law_word","_law_at"] ["_law_tape_here"] (ah ix):=⟨rfl,rfl,rfl,by decide +kernel,rfl,by decide +kernel,by decide +kernel⟩
theorem sY {f fD:Addr} {fd fdD:FuncData} (F:Fun K "_law_names" "_law_names" ix f fd) (B:Blt mg) (FD:Fun K "_law_draw" "_law_draw" gZ fD fdD) (bD:Binds K fdD ["_law_tape_here","_law_many"] []) (mD:mg "_law_draw"=some (.ref fD)):
 FnOk P w K mg base CX0 2 f fd ["_law_tape_here"] oW:=by
 have GD:FnOk P w K mg base CX0 1 fD fdD ["_law_tape_here","_law_many"] eD:=iZ FD B
 refine F.ok scNm (fun vs H Q E h=> ?_) (fun cdv A outer s H vs Q E hr h=> ?_)
 · obtain ⟨tp,cc,n,rfl,_⟩:=h
   rfl
 obtain ⟨tp,cc,n,rfl,hT,hn,k⟩:=h
 refine ⟨_,af (aJ (i:=1) scNm.nd rfl (Or.inr rfl) aY)
  (af (aJ (i:=2) scNm.nd rfl (Or.inl rfl) (je PySem.F.plainAttrs_str PySem.F.slot_str_join PySem.F.type_str_join vA aY (a8
   (bZ (NC:= ["_law_k","_law_letters","_law_tape_here"]) (mp:= [none,some 1,some 0]) rfl (di rfl B.ra (a8 (aH bK ac (ai GD hr rfl mD FD.kp bD .nil ak (a8 (pv 0) (a8 ac a9)))) a9)) (fun _ _ _ _ _=>ax (i:=0) (show (["_law_k","_law_letters","_law_tape_here"]:List Str).Nodup by decide +kernel) rfl (Or.inl rfl)) (fun _ _ _ _ _=>bw)
    (fun _ _ _ _ _=>aw ly (pv 1) (ai GD hr rfl mD FD.kp bD .nil ak (a8 (pv 2) (a8 ac a9))) fun _ _=>rfl)) a9)))
  (af (aJ (i:=3) scNm.nd rfl (Or.inl rfl) (aH bK (aH bK (je PySem.F.plainAttrs_str PySem.F.slot_str_find PySem.F.type_str_find vB (pv 1) (a8 (aw ly (pv 2) (cW cq ac) fun _ _=>rfl) a9)) ac) (ai GD hr rfl mD FD.kp bD .nil ak (a8 (pv 0) (a8 ac a9)))))
  (aj (am (cG (a8 (pv 2) (a8 (aH ji (bu xa (pv 2) cg (cf (cW cq ac))) (aw ly (pv 1) (aH f9 (pv 3) ac) fun _ _=>rfl)) (a8 (aH ji (pv 2) (aw ly (pv 1) (ai GD hr rfl mD FD.kp bD .nil ak (a8 (pv 0) (a8 ac a9))) fun _ _=>rfl)) a9)))))))),?_⟩
 have hL:(20000:Nat)≤sizeLine:=by decide +kernel
 refine ⟨rfl,?_⟩
 refine km ?_
 refine cJ rfl ?_
 refine ⟨_,rfl,tp,cc,6,n,rfl,hT,by omega,by decide,cz (by decide) (by decide),fun r0 H0 r00 r01 hT0 kp0=> ?_⟩
 refine ⟨1,r0,rfl,rfl,1+r0,rfl,by omega,by omega,fun D nD=> ?_⟩
 obtain ⟨c,ec⟩:∃c:Nat,(1+r0).toNat=c:=⟨_,rfl⟩
 have c6:c≤6:=by omega
 have c1:1≤c:=by omega
 have nfD:=hT0.ne nD
 have bt0:But tp H H0:=But.of_keep kp0
 have nD0:=bt0.free hT0 nD
 rw [ec]
 refine fc (n:=c) (fun i acc H'=>TapeAt H' tp cc (n+1+i)∧But tp H H'∧H' D=some (.lst acc)∧∃ys:List Str,acc=ys.map V.str∧ys.length=i∧∀y∈ys,y.length=1∧∀c∈y.cps.toList,Trm.Ltr c)
  ⟨hT0.same (ae nD),bt0.wr nD0,aa,[],rfl,rfl,fun y m=>by cases m⟩ ?_ ?_
 · rintro i acc H' hi ⟨hT',bt,hD,ys,rfl,hy,hw⟩
   refine ⟨_,rfl,_,rfl,tp,cc,26,n+1+i,rfl,hT',by omega,by decide,cz (by decide) (by decide),fun r H2 h0 h1 hT2 kp=> ?_⟩
   obtain ⟨d,ed⟩:=oN h0 h1
   have hD2:H2 D=some (.lst (ys.map V.str)):=(kp D nfD.1).trans hD
   have hTw:TapeAt (upd H2 D (.lst (ys.map V.str++ [.str ⟨#[d]⟩]))) tp cc (n+1+(i+1)):=hT2.wr nfD
   refine ⟨_,r,d,rfl,rfl,lL,ed,CompN.mk hi (by rw [yW];omega) hD2 ⟨hTw,(bt.trans (But.of_keep kp)).wr nD0,aa,ys++ [⟨#[d]⟩],by simp,by simp [hy],fun y m=> ?_⟩⟩
   rcases zf.mp m with m|m
   · exact hw y m
   · rw [ze.mp m]
     exact ⟨rfl,la (lK _ (lH ed))⟩
 rintro acc H1 ⟨hT1,bt1,hD,ys,rfl,hy,hw⟩
 have sm:(ys.map (·.length)).sum=ys.length:=by
  clear hy hD
  induction ys with
  |nil=>rfl
  |cons y ys ih=>
   simp only [zo,List.sum_cons,zw]
   rw [ih fun z m=>hw z (z6 _ m),(hw y yY).1]
   omega
 have e0:(Str.ofString "").length=0:=by decide +kernel
 have jl:=u9 ys
 refine ⟨_,D,ys,rfl,rfl,SqL.of hD,by rw [e0];omega,?_⟩
 have wl:(Txt.join (Str.ofString "") ys).length=c:=by omega
 obtain ⟨lc,elc⟩:=tV (z:=Txt.join (Str.ofString "") ys) (by omega)
 refine ⟨_,rfl,rfl,_,rfl,_,rfl,_,-1,lc,rfl,rfl,by omega,elc,_,_,rfl,rfl,trivial,_,_,rfl,rfl,_,rfl,tp,cc,25,n+1+c,rfl,hT1,by omega,by decide,cz (by decide) (by decide),fun r1 H2 _ _ hT2 kp2=> ?_⟩
 refine ⟨_,_,rfl,rfl,?_⟩
 have q0:∀x:Int,(0:Int)≤x%26:=fun x=>Aj _ (by decide)
 have q1:∀x:Int,x%26 < 26:=fun x=>Ab _ (by decide)
 obtain ⟨ld,eld⟩:=oN (q0 (Txt.find abc ⟨#[lc]⟩ +1+r1)) (q1 _)
 have sl1:=Txt.slice_le (Txt.join (Str.ofString "") ys) none (some (-1))
 have one:∀x:Nat,(⟨#[x]⟩:Str).length=1:=fun _=>rfl
 refine ⟨_,rfl,_,rfl,_,rfl,_,rfl,_,rfl,by omega,_,rfl,_,rfl,_,26,rfl,rfl,by show (0:Int) < 26;decide,_,_,ld,rfl,rfl,lL,eld,_,_,rfl,rfl,by rw [one];omega,_,rfl,_,rfl,_,rfl,tp,cc,26,n+1+c+1,rfl,hT2,by omega,by decide,cz (by decide) (by decide),fun r2 H3 r20 r21 hT3 kp3=> ?_⟩
 obtain ⟨le_,ele⟩:=oN r20 r21
 refine ⟨_,r2,le_,rfl,rfl,lL,ele,_,_,rfl,rfl,by rw [one];omega,by show 3≤sizeLine;decide,fun p np=> ?_⟩
 have bt3:=(bt1.trans (But.of_keep kp2)).trans (But.of_keep kp3)
 have np0:=bt3.free hT3 np
 have jw:=u8 fun y my=>(hw y my).2
 exact k p _ ((hT3.wr (hT3.ne np)).mono (by omega)) (bt3.wr np0) np0 ⟨_,_,_,aa,⟨by omega,by omega,jw⟩,⟨by rw [fZ,one];omega,by rw [fZ,one];omega,j4 (qo jw) (la (lK _ (lH eld)))⟩,⟨by rw [fZ,one];omega,by rw [fZ,one];omega,j4 jw (la (lK _ (lH ele)))⟩⟩
end
open PySem L2 Mth Tre
theorem oF {t b:Int} (h:0 < b):fx t b=t / (Int.gcd t b:Int)∧fy t b=b / (Int.gcd t b:Int):=by
 unfold fx fy dv
 rw [if_neg (by omega)]
 exact ⟨A6 _ (by omega),A6 _ (by omega)⟩
theorem pL {t b:Int} (h:0 < b):(fx t b).natAbs≤t.natAbs∧(fy t b).natAbs≤b.natAbs:=by
 rw [(oF (t:=t) h).1,(oF (t:=t) h).2]
 exact ⟨j1 _ _,j1 _ _⟩
def T59:Int:=10^59
theorem t59:(1000000:Int)≤T59∧(T59+10).natAbs < 2^200∧T59 < 2^200:=by decide +kernel
theorem wL {m:Int} (h0:0≤m) (h:m≤T59+10):Big m:=by
 have h1:=t59.2.1
 unfold Big
 have:(2:Nat)^200 < 2^8000:=by decide +kernel
 exact zq (show m.natAbs≤(T59+10).natAbs by omega) (Nat.lt_trans h1 this)
section
variable {P:Program} {w:World} {K:PySem.W.Frag} {mg:Str→Option Value} {base:Heap}
def spWh:Sp:=fun vs H Q _=>∃(tp c:Addr) (a b:Int) (n:Nat),vs= [.ref tp, .int a, .int b]∧TapeAt H tp c n∧n+2≤1000000∧0 < a∧a≤b∧b≤T59∧∀(r:Int) (H':Hp),0≤r→r < b→TapeAt H' tp c (n+2)→Keep tp H H'→Q (.int r) H'
theorem scWh:aD ["_law_tape_here","_law_small","_law_great"] ["_law_tape_here","_law_small","_law_great"] (ah ip):=⟨rfl,rfl,rfl,by decide +kernel,rfl,by decide +kernel,by decide +kernel⟩
theorem yy {f fD:Addr} {fd fdD:FuncData} (F:Fun K "_law_whole" "_law_whole" ip f fd) (B:Blt mg) (FD:Fun K "_law_draw" "_law_draw" gZ fD fdD) (bD:Binds K fdD ["_law_tape_here","_law_many"] []) (mD:mg "_law_draw"=some (.ref fD)):
 FnOk P w K mg base CX0 2 f fd ["_law_tape_here","_law_small","_law_great"] spWh:=by
 have GD:FnOk P w K mg base CX0 1 fD fdD ["_law_tape_here","_law_many"] eD:=iZ FD B
 refine F.ok scWh (fun vs H Q E h=> ?_) (fun cdv A outer s H vs Q E hr h=> ?_)
 · obtain ⟨tp,c,a,b,n,rfl,_⟩:=h
   rfl
 obtain ⟨tp,c,a,b,n,rfl,hT,hn,a0,ab,bT,k⟩:=h
 refine ⟨_,af (aP (aE bY (ai GD hr rfl mD FD.kp bD .nil ak (a8 (pv 0) (a8 ac a9))) ac (aA _)) (aj (am (ai GD hr rfl mD FD.kp bD .nil ak (a8 (pv 0) (a8 (pv 2) a9))))) au)
  (aj (am (ai GD hr rfl mD FD.kp bD .nil ak (a8 (pv 0) (a8 (pv 1) a9))))),?_⟩
 refine ⟨_,rfl,tp,c,9,n,rfl,hT,by omega,by decide,cz (by decide) (by decide),fun r H1 _ _ hT1 kp1=> ?_⟩
 refine ⟨rfl,_,rfl,?_⟩
 refine ite2 (fun _=> ?_) (fun _=> ?_)
 · exact ⟨_,rfl,_,rfl,tp,c,b,n+1,rfl,hT1,by omega,by omega,wL (by omega) (by omega),fun r H2 r0 r1 hT2 kp2=>k r H2 r0 r1 hT2 (kp1.trans kp2)⟩
 · exact ⟨_,rfl,_,rfl,tp,c,a,n+1,rfl,hT1,by omega,a0,wL (by omega) (by omega),fun r H2 r0 r1 hT2 kp2=>k r H2 r0 (by omega) hT2 (kp1.trans kp2)⟩
end
open PySem L2 Mth Tre
theorem rA {r:List V→Hp→VK→Prop} {te:TE} {σ:L2.St} {H:Hp} {Q:List V→Hp→Prop} (h:te σ H fun v H1=>r [v] H1 fun u H2=>Q [u] H2):cO (tCB r (cO te tNil)) tNil σ H Q:=h
theorem cT {n:Nat}:∀ {ts:List Tr},(∀t∈ts,t.depth≤n)→Trs.depth ts≤n
 | [],_=>by unfold Trs.depth;omega
 |t::ts,h=>by
  unfold Trs.depth
  have h1:=h t yY
  have h2:=cT fun u m=>h u (z6 t m)
  omega
inductive Ln:Tr→Prop
 |nm (x:Str):Trm.Nm x→Ln (.tup [s_ "name", .str x])
 |ap (f:Str) (ts:List Tr):Trm.Nm f→0 < ts.length→ts.length≤3→(∀t∈ts,Ln t)→Ln (.tup [s_ "call", .str f, .tup ts])
theorem cU {H:Hp} {x:Str}:TrAt H (.str x) (.str x):=by unfold TrAt;rfl
theorem aU {H:Hp} {r:Addr} {vs:List V} {ts:List Tr} (h:H r=some (.tup vs)) (h1:TrsAt H vs ts):TrAt H (.ref r) (.tup ts):=by
 unfold TrAt
 exact ⟨r,vs,rfl,h,h1⟩
section
variable {P:Program} {w:World} {K:PySem.W.Frag} {mg:Str→Option Value} {base:Heap}
def j9 (n:Nat):Sp:=fun vs H Q _=>∃(tp c nl:Addr) (d k:Nat),vs= [.ref tp, .ref nl, .int (d:Int)]∧TapeAt H tp c k∧k+4^(d+1)≤1000000∧Names H nl∧nl≠tp∧d < n∧
 ∀v t H',TapeAt H' tp c (k+4^(d+1))→But tp H H'→TrAt H' v t→Ty .tm t→Ln t→t.depth≤2*d+1→Q v H'
theorem scTe:aD ["_law_tape_here","_law_names_here","_law_deep","_law_name"] ["_law_tape_here","_law_names_here","_law_deep"] (ah jL):=⟨rfl,rfl,rfl,by decide +kernel,rfl,by decide +kernel,by decide +kernel⟩
theorem vk {f fD:Addr} {fd fdD:FuncData} (F:Fun K "_law_term" "_law_term" jL f fd) (bF:Binds K fd ["_law_tape_here","_law_names_here","_law_deep"] []) (mF:mg "_law_term"=some (.ref f)) (B:Blt mg) (FD:Fun K "_law_draw" "_law_draw" gZ fD fdD) (bD:Binds K fdD ["_law_tape_here","_law_many"] []) (mD:mg "_law_draw"=some (.ref fD)):
 ∀n,FnOk P w K mg base CX0 (n+1) f fd ["_law_tape_here","_law_names_here","_law_deep"] (j9 n):=by
 have GD:FnOk P w K mg base CX0 1 fD fdD ["_law_tape_here","_law_many"] eD:=iZ FD B
 intro n
 induction n with
 |zero=>exact ⟨fun vs H Q E ⟨_,_,_,_,_,_,_,_,_,_,h,_⟩=>absurd h (by omega),fun A outer s H args us vs Q E _ _ _ _ ⟨_,_,_,_,_,_,_,_,_,_,h,_⟩=>absurd h (by omega)⟩
 |succ n ih=>
  refine F.ok scTe (fun vs H Q E h=> ?_) (fun cdv A outer s H vs Q E hr h=> ?_)
  · obtain ⟨tp,c,nl,d,k,rfl,_⟩:=h
    rfl
  obtain ⟨tp,c,nl,d,kk,rfl,hT,hn,hN,nt,hd,k⟩:=h
  have hr1:Room 1 _:=hr.mono (by omega)
  refine ⟨_,af (aJ (i:=3) scTe.nd rfl (Or.inl rfl) (aw bV (pv 1) (ai GD hr1 rfl mD FD.kp bD .nil ak (a8 (pv 0) (a8 ac a9))) fun _ _=>rfl))
   (af (aP (PW.pt (cP (aE bY (pv 2) ac (aA _)) (cR (aE gh (ai GD hr1 rfl mD FD.kp bD .nil ak (a8 (pv 0) (a8 ac a9))) ac (aA _)))))
    (aj (am (aB (a8 aY (a8 (pv 3) a9))))) au)
   (aj (am (aB (a8 aY (a8 (pv 3) (a8 (cn cp rfl B.tu PyProof.Rows.boot_tuple (a8
    (bZ (NC:= ["_law_k","_law_deep","_law_names_here","_law_tape_here"]) (mp:= [none,some 2,some 1,some 0]) rfl (di rfl B.ra (a8 (aH bK ac (ai GD hr1 rfl mD FD.kp bD .nil ak (a8 (pv 0) (a8 ac a9)))) a9)) (fun _ _ _ _ _=>ax (i:=0) (show (["_law_k","_law_deep","_law_names_here","_law_tape_here"]:List Str).Nodup by decide +kernel) rfl (Or.inl rfl)) (fun _ _ _ _ _=>bw)
     (fun _ _ _ _ _=>ai ih hr rfl mF F.kp bF .nil ak (a8 (pv 3) (a8 (pv 2) (a8 (aH o6 (pv 1) ac) a9))))) a9)) a9))))))),?_⟩
  have hL:(20000:Nat)≤sizeLine:=by decide +kernel
  have p4:4≤4^(d+1):=by
   have:4^1≤4^(d+1):=Nat.pow_le_pow_right (by decide) (by omega)
   omega
  refine ⟨_,rfl,_,rfl,tp,c,3,kk,rfl,hT,by omega,by decide,cz (by decide) (by decide),fun r H1 r0 r1 hT1 kp1=> ?_⟩
  have b1:But tp H H1:=But.of_keep kp1
  obtain ⟨xs,x,e1,e2,nmx⟩:=(hN.but nt b1).atN r0 r1
  refine ⟨nl,xs,r,_,rfl,rfl,SqL.of e1,e2,?_⟩
  have name:∀(H2:Hp) (m:Nat),TapeAt H2 tp c (kk+m)→m≤4→But tp H H2→(tRet (tTup (cO (tC (.str (Str.ofString "name"))) (cO (tVar 3) tNil)))) {nx:=fun _ H'=>Q .non H',rt:=Q} [some (.ref tp),some (.ref nl),some (.int (d:Int)),some (.str x)] H2:=by
   intro H2 m hT2 hm b2
   refine ⟨_,rfl,by show 2≤sizeLine;decide,fun p np=> ?_⟩
   have np0:=b2.free hT2 np
   refine k (.ref p) _ _ ((hT2.wr (hT2.ne np)).mono (by omega)) (b2.wr np0) (aU aa (.cons cU (.cons cU .nil))) (.nm x) (.nm x nmx) ?_
   simp only [Tr.depth,Trs.depth]
   omega
  refine ⟨_,rfl,rfl,_,rfl,?_⟩
  refine ite2 (fun _=>name H1 1 hT1 (by decide) b1) (fun hd0=> ?_)
  have d0:d≠0:=fun z=>hd0 (by rw [z];decide)
  refine ⟨_,rfl,tp,c,3,kk+1,rfl,hT1,by omega,by decide,cz (by decide) (by decide),fun r2 H2 _ _ hT2 kp2=> ?_⟩
  have b2:=b1.trans (But.of_keep kp2)
  refine ⟨_,_,rfl,rfl,_,rfl,?_⟩
  refine ite2 (fun _=>name H2 2 hT2 (by decide) b2) (fun _=> ?_)
  refine ⟨_,rfl,?_⟩
  refine rA ?_
  refine cJ rfl ?_
  refine ⟨_,rfl,tp,c,3,kk+2,rfl,hT2,by omega,by decide,cz (by decide) (by decide),fun r3 H3 r30 r31 hT3 kp3=> ?_⟩
  have b3:=b2.trans (But.of_keep kp3)
  refine ⟨1,r3,rfl,rfl,1+r3,rfl,by omega,by omega,fun D nD=> ?_⟩
  obtain ⟨m,em⟩:∃m:Nat,(1+r3).toNat=m:=⟨_,rfl⟩
  have m3:m≤3:=by omega
  have nfD:=hT3.ne nD
  have n0D:=b3.free hT3 nD
  have e4:4^(d+1)=4*4^d:=by rw [Nat.pow_succ,Nat.mul_comm]
  have d4:4≤4^d:=by
   have:4^1≤4^d:=Nat.pow_le_pow_right (by decide) (by omega)
   omega
  have hm4:m*4^d≤3*4^d:=zT _ m3
  rw [em]
  refine fc (n:=m) (fun i acc H'=>TapeAt H' tp c (kk+3+i*4^d)∧But tp H H'∧H' D=some (.lst acc)∧∃ts:List Tr,TrsAt H' acc ts∧ts.length=i∧∀t∈ts,(Ty .tm t∧Ln t)∧t.depth≤2*(d - 1)+1)
   ⟨(hT3.wr nfD).mono (by omega),b3.wr n0D,aa,[], .nil,rfl,fun y m=>by cases m⟩ ?_ ?_
  · rintro i acc H' hi ⟨hT',bt,hD,ts,hTs,hl,hw⟩
    have hi4:i*4^d+4^d≤3*4^d:=by
     have:(i+1)*4^d≤3*4^d:=zT _ (by omega)
     rw [Nat.add_mul,Nat.one_mul] at this
     exact this
    have ed:d - 1+1=d:=by omega
    refine ⟨_,rfl,_,rfl,_,rfl,_,_,rfl,rfl,tp,c,nl,d - 1,kk+3+i*4^d,?_,hT',by rw [ed];omega,hN.but nt bt,nt,by omega,fun v t H6 hT6 b6 hv tyt lnt dt=> ?_⟩
    · show [V.ref tp, .ref nl, .int ((d:Int) - 1)]=_
      rw [show ((d:Int) - 1)=((d - 1:Nat):Int) by omega]
    · have hD6:H6 D=some (.lst acc):=b6 D _ nfD.1 hD
      have kd6:=b6.kd hT' hT6
      have tp6:=Kd.upd (ys:=acc++ [v]) hD6
      have hl2:=hTs.len
      rw [ed] at hT6
      refine CompN.mk hi (by omega) hD6 ⟨?_,(bt.trans b6).wr n0D,aa,ts++ [t],TrsAt.app (.cons (hv.mono tp6) .nil) (hTs.mono (kd6.trans tp6)),by simp [hl],fun u mu=> ?_⟩
      · rw [Nat.add_mul,Nat.one_mul,←Nat.add_assoc]
        exact hT6.wr nfD
      · rcases zf.mp mu with mu|mu
        · exact hw u mu
        · rw [ze.mp mu]
          exact ⟨⟨tyt,lnt⟩,dt⟩
  · rintro acc H4 ⟨hT4,b4,hD,ts,hTs,hl,hw⟩
    refine ⟨D,acc,rfl, .inl ⟨SqL.of hD,fun l nl'=> ?_⟩⟩
    refine ⟨by show 3≤sizeLine;decide,fun q nq=> ?_⟩
    have s1:Same H4 (upd H4 l (.tup acc)):=ae nl'
    have s2:Same (upd H4 l (.tup acc)) (upd (upd H4 l (.tup acc)) q (.tup [.str (Str.ofString "call"), .str x, .ref l])):=ae nq
    refine k (.ref q) _ _ ((hT4.same (s1.trans s2)).mono (by omega)) (b4.trans (But.of_same (s1.trans s2))) (aU aa (.cons cU (.cons cU (.cons (aU (s2 _ _ aa) (hTs.mono (Kd.of_same (s1.trans s2)))) .nil)))) (.ap x ts (by omega) fun t m=>(hw t m).1.1) (.ap x ts nmx (by omega) (by omega) fun t m=>(hw t m).1.2) ?_
    have:=cT fun t m=>(hw t m).2
    simp only [Tr.depth,Trs.depth]
    omega
end
open PySem L2 Mth Tre Zp
section
variable {P:Program} {w:World} {K:PySem.W.Frag} {mg:Str→Option Value} {base:Heap}
def spAl (n:Nat):Sp:=fun vs H Q _=>∃(v w:V),vs= [v,w]∧Sm H n v w∧∀H',Same H H'→Q (.bl true) H'
theorem scAl:aD ["_law_found","_law_due_here"] ["_law_found","_law_due_here"] (ah iA):=⟨rfl,rfl,rfl,by decide +kernel,rfl,by decide +kernel,by decide +kernel⟩
theorem rn {Z:Ends} {σ:L2.St} {H:Hp} (h:Z.nx σ H):rJ Z σ H:=h
theorem uH:∀ {bs:List Bool},(∀b∈bs,b=true)→bs.all id=true:=fun h=>Ag.mpr fun b m=>h b m
theorem yO {f:Addr} {fd:FuncData} (F:Fun K "_law_alike" "_law_alike" iA f fd) (bF:Binds K fd ["_law_found","_law_due_here"] []) (mF:mg "_law_alike"=some (.ref f)) (B:Blt mg):∀n,FnOk P w K mg base CX0 (n+1) f fd ["_law_found","_law_due_here"] (spAl n):=by
 intro n
 induction n with
 |zero=>exact ⟨fun vs H Q E ⟨_,_,_,h,_⟩=>h.elim,fun A outer s H args us vs Q E _ _ _ _ ⟨_,_,_,h,_⟩=>h.elim⟩
 |succ n ih=>
  refine F.ok scAl (fun vs H Q E h=> ?_) (fun cdv A outer s H vs Q E hr h=> ?_)
  · obtain ⟨v,w',rfl,_⟩:=h
    rfl
  obtain ⟨v,w',rfl,hs,k⟩:=h
  refine ⟨_,af (aP (bf (ar (r:=rIsi K) aX rfl B.isi ao (a8 (pv 1) (a8 (aB (a8 (bh (v:= .ty "list") rfl B.li PyProof.Rows.boot_list rfl) (a8 (bh (v:= .ty "tuple") rfl B.tu PyProof.Rows.boot_tuple rfl) a9))) a9))))
   (af (aP (PW.pt (cP (cj (bf (ar (r:=rIsi K) aX rfl B.isi ao (a8 (pv 0) (a8 (aB (a8 (bh (v:= .ty "list") rfl B.li PyProof.Rows.boot_list rfl) (a8 (bh (v:= .ty "tuple") rfl B.tu PyProof.Rows.boot_tuple rfl) a9))) a9)))))
    (cR (aE mr (ar (r:=rIsi K) aX rfl B.isi ao (a8 (pv 0) (a8 (bh (v:= .ty "list") rfl B.li PyProof.Rows.boot_list rfl) a9))) (ar (r:=rIsi K) aX rfl B.isi ao (a8 (pv 1) (a8 (bh (v:= .ty "list") rfl B.li PyProof.Rows.boot_list rfl) a9))) (aA _))))) (aj (am cQ)) au)
   (af (aP (aE mr (ar bp rfl B.le PySem.boot_len (a8 (pv 0) a9)) (ar bp rfl B.le PySem.boot_len (a8 (pv 1) a9)) (aA _)) (aj (am cQ)) au)
   (aj (am (ar (eX rfl) rfl B.al PyProof.Rows.boot_all (a8 (bZ (NC:= ["_law_one","_law_other"]) (mp:= [none,none]) (g:=gTup K 2 (bQ (aV 0) (bQ (aV 1) gNil))) rfl (vg rfl B.zi (a8 (pv 0) (a8 (pv 1) a9)))
    (fun _ _ _ _ _=>cw (n:=2) rfl (aI (ax (i:=0) (show (["_law_one","_law_other"]:List Str).Nodup by decide +kernel) rfl (Or.inl rfl) (Or.inr rfl)) (aI (ax (i:=1) (show (["_law_one","_law_other"]:List Str).Nodup by decide +kernel) rfl (Or.inl rfl) (Or.inr rfl)) ci))) (fun _ _ _ _ _=>bw)
    (fun _ _ _ _ _=>ai ih hr rfl mF F.kp bF .nil ak (a8 (pv 0) (a8 (pv 1) a9)))) a9)))))) au)
   (af (aP (PW.pt (cP (aE iF (pv 1) eG (aA _)) (cR (aE iF (pv 0) eG (aA _)))))
    (aj (am (c9 (bJ iF (pv 1) eG (aA _)) (cF (bJ iF (pv 0) eG (aA _)))))) au)
   (af (aP (PW.pt (cP (bf (ar (r:=rIsi K) aX rfl B.isi ao (a8 (pv 1) (a8 (bh (v:= .ty "bool") rfl B.bo PyProof.Rows.boot_bool rfl) a9)))) (cR (bf (ar (r:=rIsi K) aX rfl B.isi ao (a8 (pv 0) (a8 (bh (v:= .ty "bool") rfl B.bo PyProof.Rows.boot_bool rfl) a9)))))))
    (aj (am (c9 (ar (r:=rIsi K) aX rfl B.isi ao (a8 (pv 1) (a8 (bh (v:= .ty "bool") rfl B.bo PyProof.Rows.boot_bool rfl) a9))) (c9 (ar (r:=rIsi K) aX rfl B.isi ao (a8 (pv 0) (a8 (bh (v:= .ty "bool") rfl B.bo PyProof.Rows.boot_bool rfl) a9))) (cF (bJ bY (pv 0) (pv 1) (aA _))))))) au)
   (af (aP (PW.pt (cP (cj (bf (ar (r:=rIsi K) aX rfl B.isi ao (a8 (pv 0) (a8 (aB (a8 (bh (v:= .ty "int") rfl B.it PyProof.Rows.boot_int rfl) (a8 (bh (v:= .ty "str") rfl B.st PyProof.Rows.boot_str rfl) a9))) a9)))))
    (cR (aE mr (ar (r:=rIsi K) aX rfl B.isi ao (a8 (pv 0) (a8 (bh (v:= .ty "str") rfl B.st PyProof.Rows.boot_str rfl) a9))) (ar (r:=rIsi K) aX rfl B.isi ao (a8 (pv 1) (a8 (bh (v:= .ty "str") rfl B.st PyProof.Rows.boot_str rfl) a9))) (aA _))))) (aj (am cQ)) au)
   (aj (am (bJ bY (pv 0) (pv 1) (aA _))))))),?_⟩
  rcases hs with ⟨x,rfl,rfl⟩|⟨i,rfl,rfl⟩|⟨b,rfl,rfl⟩|⟨rfl,rfl⟩|⟨a,b,xs,ys,rfl,rfl,hab,hlen,hit⟩
  · refine ⟨_,rfl,by show 2≤sizeLine;decide,fun p np=> ?_⟩
    have s1:Same H (upd H p (.tup [.ty "list", .ty "tuple"])):=ae np
    refine ⟨.str x, .ref p,_,false,rfl, .of (.str x), .inr ⟨p,_,rfl,aa,rfl,qF K⟩,false,rfl,iteF ?_⟩
    refine ⟨_,rfl,rfl,_,rfl,iteF ⟨_,rfl,rfl,_,rfl,iteF ?_⟩⟩
    refine ⟨_,rfl, .str x, .ty "bool",_,false,rfl, .of (.str x), .inl ⟨rfl,iM K⟩,false,rfl,iteF ⟨_,rfl, .str x, .ty "bool",_,false,rfl, .of (.str x), .inl ⟨rfl,iM K⟩,false,rfl,iteF ?_⟩⟩
    refine ⟨_,rfl,by show 2≤sizeLine;decide,fun q nq=> ?_⟩
    have s2:=s1.trans (ae (o:= .tup [.ty "int", .ty "str"]) nq)
    refine ⟨.str x, .ref q,_,true,rfl, .of (.str x), .inr ⟨q,_,rfl,aa,rfl,qG K⟩,true,rfl,iteF ?_⟩
    refine ⟨_,rfl, .str x, .ty "str",_,true,rfl, .of (.str x), .inl ⟨rfl,jk K⟩,_,rfl, .str x, .ty "str",_,true,rfl, .of (.str x), .inl ⟨rfl,jk K⟩,rfl,_,rfl,?_⟩
    rw [decide_eq_true rfl]
    refine iteF ⟨_,rfl,_,rfl,rfl,?_⟩
    rw [decide_eq_true rfl]
    exact k _ s2
  · refine ⟨_,rfl,by show 2≤sizeLine;decide,fun p np=> ?_⟩
    have s1:Same H (upd H p (.tup [.ty "list", .ty "tuple"])):=ae np
    refine ⟨.int i, .ref p,_,false,rfl, .of (.int i), .inr ⟨p,_,rfl,aa,rfl,qI K⟩,false,rfl,iteF ?_⟩
    refine ⟨_,rfl,rfl,_,rfl,iteF ⟨_,rfl,rfl,_,rfl,iteF ?_⟩⟩
    refine ⟨_,rfl, .int i, .ty "bool",_,false,rfl, .of (.int i), .inl ⟨rfl,i4 K⟩,false,rfl,iteF ⟨_,rfl, .int i, .ty "bool",_,false,rfl, .of (.int i), .inl ⟨rfl,i4 K⟩,false,rfl,iteF ?_⟩⟩
    refine ⟨_,rfl,by show 2≤sizeLine;decide,fun q nq=> ?_⟩
    have s2:=s1.trans (ae (o:= .tup [.ty "int", .ty "str"]) nq)
    refine ⟨.int i, .ref q,_,true,rfl, .of (.int i), .inr ⟨q,_,rfl,aa,rfl,qJ K⟩,true,rfl,iteF ?_⟩
    refine ⟨_,rfl, .int i, .ty "str",_,false,rfl, .of (.int i), .inl ⟨rfl,jm K⟩,_,rfl, .int i, .ty "str",_,false,rfl, .of (.int i), .inl ⟨rfl,jm K⟩,rfl,_,rfl,?_⟩
    rw [decide_eq_true rfl]
    refine iteF ⟨_,rfl,_,rfl,rfl,?_⟩
    rw [decide_eq_true rfl]
    exact k _ s2
  · refine ⟨_,rfl,by show 2≤sizeLine;decide,fun p np=> ?_⟩
    have s1:Same H (upd H p (.tup [.ty "list", .ty "tuple"])):=ae np
    refine ⟨.bl b, .ref p,_,false,rfl, .of (.bl b), .inr ⟨p,_,rfl,aa,rfl,oB K⟩,false,rfl,iteF ?_⟩
    refine ⟨_,rfl,rfl,_,rfl,iteF ⟨_,rfl,rfl,_,rfl,iteF ?_⟩⟩
    refine ⟨_,rfl, .bl b, .ty "bool",_,true,rfl, .of (.bl b), .inl ⟨rfl,eH K⟩,true,rfl,iteT ?_⟩
    refine ⟨_,rfl, .bl b, .ty "bool",_,true,rfl, .of (.bl b), .inl ⟨rfl,eH K⟩,true,rfl,iteT ⟨_,rfl, .bl b, .ty "bool",_,true,rfl, .of (.bl b), .inl ⟨rfl,eH K⟩,true,rfl,iteT ⟨_,rfl,_,rfl,rfl,?_⟩⟩⟩
    rw [decide_eq_true rfl]
    exact k _ s1
  · refine ⟨_,rfl,by show 2≤sizeLine;decide,fun p np=> ?_⟩
    have s1:Same H (upd H p (.tup [.ty "list", .ty "tuple"])):=ae np
    refine ⟨.non, .ref p,_,false,rfl, .of .non, .inr ⟨p,_,rfl,aa,rfl,ot K⟩,false,rfl,iteF ?_⟩
    refine ⟨_,rfl,rfl,_,rfl,iteT ⟨_,rfl,rfl,_,rfl,iteT ⟨_,rfl,rfl,?_⟩⟩⟩
    exact k _ s1
  · obtain ⟨T,bl,kk,hTy,kA,kL,hSq⟩:∃(T:String) (bl:Bool) (kk:Src),(∀H',Same H H'→TyX K H' (.ref a) (.type T)∧TyX K H' (.ref b) (.type T))∧PySem.W.kitAny K (.type T) [.type "list", .type "tuple"]=some true∧PySem.W.kitOne K (.type T) (.type "list")=some bl∧
     (∀H',Same H H'→(Sqk kk K H' a xs∧(SqL K H' a xs∨SqT K H' a xs))∧Sqk kk K H' b ys∧(SqL K H' b ys∨SqT K H' b ys)):=by
     rcases hab with ⟨ha,hb⟩|⟨ha,hb⟩
     · exact ⟨"list",true, .lst,fun H' s=>⟨.of (.lst (s _ _ ha)), .of (.lst (s _ _ hb))⟩,qH K,oA K,fun H' s=>⟨⟨SqL.of (s _ _ ha), .inl (SqL.of (s _ _ ha))⟩,SqL.of (s _ _ hb), .inl (SqL.of (s _ _ hb))⟩⟩
     · exact ⟨"tuple",false, .tup,fun H' s=>⟨.of (.tup (s _ _ ha)), .of (.tup (s _ _ hb))⟩,qE K,or K,fun H' s=>⟨⟨SqT.of (s _ _ ha), .inr (SqT.of (s _ _ ha))⟩,SqT.of (s _ _ hb), .inr (SqT.of (s _ _ hb))⟩⟩
    refine ⟨_,rfl,by show 2≤sizeLine;decide,fun p np=> ?_⟩
    have s1:Same H (upd H p (.tup [.ty "list", .ty "tuple"])):=ae np
    obtain ⟨ta,tb⟩:=hTy _ s1
    refine ⟨.ref b, .ref p,_,true,rfl,tb, .inr ⟨p,_,rfl,aa,rfl,kA⟩,true,rfl,iteT ?_⟩
    refine ⟨_,rfl,by show 2≤sizeLine;decide,fun q nq=> ?_⟩
    have s2:=s1.trans (ae (o:= .tup [.ty "list", .ty "tuple"]) nq)
    obtain ⟨ta,tb⟩:=hTy _ s2
    obtain ⟨⟨za,qa⟩,zb,qb⟩:=hSq _ s2
    refine ⟨.ref a, .ref q,_,true,rfl,ta, .inr ⟨q,_,rfl,aa,rfl,kA⟩,true,rfl,iteF ?_⟩
    refine ⟨_,rfl, .ref a, .ty "list",_,bl,rfl,ta, .inl ⟨rfl,kL⟩,_,rfl, .ref b, .ty "list",_,bl,rfl,tb, .inl ⟨rfl,kL⟩,rfl,_,rfl,?_⟩
    rw [decide_eq_true rfl]
    refine iteF ⟨_,rfl,a,xs,rfl,qa,_,rfl,b,ys,rfl,qb,rfl,_,rfl,?_⟩
    rw [decide_eq_true (show V.int (xs.length:Int)=V.int (ys.length:Int) by rw [hlen])]
    refine iteF ?_
    refine rn ?_
    dsimp only
    refine iR ?_
    generalize hH2:upd (upd H p (.tup [.ty "list", .ty "tuple"])) q (.tup [.ty "list", .ty "tuple"])=H2 at*
    refine ux (k:=kk) (rest:= []) (a:=a) (b:=b) rfl hlen (fun Q q=>⟨_,rfl,_,rfl,q⟩) za zb fun D nD=> ?_
    refine ⟨fun i acc H'=>Same H2 H'∧H' D=some (.lst acc)∧acc=List.replicate i (V.bl true),⟨ae nD,aa,rfl⟩,?_,?_,?_⟩
    · rintro i acc H' ⟨sH,_,_⟩
      obtain ⟨⟨u1,_⟩,u2,_⟩:=hSq _ (s2.trans sH)
      exact ⟨u1,u2⟩
    · rintro i T x y acc H' hi hz ⟨sH,hD,rfl⟩ e1 e2 nT
      have sT:=sH.trans (ae (o:= .tup [x,y]) nT)
      refine ⟨_,rfl,_,rfl,_,_,rfl,(hit i _ _ e1 e2).mono (s2.trans sT),fun H6 s6=>CompN.mk hi ?_ (s6 _ _ ((ae nT) _ _ hD)) ⟨br nD (sT.trans s6),aa,?_⟩⟩
      · rw [Ai]
        exact hz
      · rw [List.replicate_succ']
    · rintro acc H' ⟨sH,hD,rfl⟩
      refine ⟨D,List.replicate xs.length true,rfl,SqL.of (by rw [List.map_replicate];exact hD),?_⟩
      rw [uH fun b m=>(List.mem_replicate.mp m).2]
      exact k _ (s2.trans sH)
end
end K25
namespace Tre
open PySem L2
noncomputable def dn1 (acc:List Tr) (t:Tr):List Tr:=if (acc.any fun u=>eqT u t)=true then acc else acc++ [t]
noncomputable def dn (ts:List Tr):List Tr:=ts.foldl dn1 []
theorem lB (ts:List Tr) (t:Tr):dn (ts++ [t])=dn1 (dn ts) t:=by
 unfold dn
 rw [List.foldl_append]
 rfl
theorem vU {acc:List Tr} {t u:Tr} (h:u∈dn1 acc t):u∈acc∨u=t:=by
 unfold dn1 at h
 split at h
 · exact .inl h
 · rcases zf.mp h with h|h
   · exact .inl h
   · exact .inr (ze.mp h)
theorem vV (acc:List Tr) (t:Tr):(dn1 acc t).length≤acc.length+1:=by
 unfold dn1
 split<;>simp
theorem iQ {k:So} {t u:Tr} (h1:Ty k t) (h2:Ty k u) (e:eqT t u=true):t=u:=rg t.depth (yZ _) h1 h2 ((dw t u).mp e)
theorem vW {k:So}:∀(n:Nat) (ps:List Tr),ps.length=n→Rise ps→(∀t∈ps,Ty k t)→dn ps=dd ps∧(∀u∈dd ps,u∈ps)∧(dd ps).getLast?=ps.getLast?:=by
 intro n
 induction n with
 |zero=>
  intro ps hl _ _
  have:ps= []:=A2 hl
  subst this
  exact ⟨rfl,fun u m=>m,rfl⟩
 |succ n ih=>
  intro ps hl hr ht
  obtain ⟨qs,t,rfl⟩:∃qs t,ps=qs++ [t]:=by
   have hne:ps≠ []:=fun z=>by rw [z] at hl;simp at hl
   exact ⟨ps.dropLast,ps.getLast hne,(A4 hne).symm⟩
  rw [z9,zO] at hl
  have hq:Rise qs:=fun i j a b hij e1 e2=>hr i j a b hij (by rw [zV (zd.mp e1).1];exact e1) (by rw [zV (zd.mp e2).1];exact e2)
  have tt:Ty k t:=ht t (by simp)
  have tq:∀u∈qs,Ty k u:=fun u m=>ht u (by simp [m])
  obtain ⟨i1,i2,i3⟩:=ih qs (by omega) hq tq
  have le:∀u∈qs,ltT t u=false:=fun u m=>by
   obtain ⟨j,hj,e⟩:=zX m
   refine hr j qs.length u t (by omega) ?_ (by simp)
   rw [zV hj,yX hj,e]
  rw [lB,fb,i1]
  have last:∀ {l:Tr},(dd qs).getLast?=some l→l∈qs∧∀u∈qs,ltT l u=false:=fun {l} e=>by
   rw [i3] at e
   have hne:qs≠ []:=fun z=>by rw [z] at e;cases e
   have e2:qs[qs.length - 1]?=some l:=by rw [←List.getLast?_eq_getElem?];exact e
   refine ⟨z7 e2,fun u m=> ?_⟩
   obtain ⟨j,hj,e'⟩:=zX m
   exact hq j (qs.length - 1) u l (by omega) (by rw [yX hj,e']) e2
  have any:∀ {l:Tr},(dd qs).getLast?=some l→((dd qs).any fun u=>eqT u t)=eqT l t:=fun {l} e=>by
   obtain ⟨ml,hl'⟩:=last e
   cases c:eqT l t with
   |true=>
    refine Af.mpr ⟨l,List.mem_of_getLast? e,c⟩
   |false=>
    refine List.any_eq_false.mpr fun u m z=> ?_
    have mu:=i2 u m
    have eu:=iQ (tq u mu) tt (by simpa using z)
    subst eu
    have:=oq (hl' u mu) (le l ml)
    rw [this] at c
    cases c
  cases e:(dd qs).getLast? with
  |none=>
   have hd:dd qs= []:=List.getLast?_eq_none_iff.mp e
   unfold dn1 dd1
   rw [hd]
   exact ⟨rfl,fun u m=>by simp at m;simp [m],by simp⟩
  |some l=>
   have ha:=any e
   have e1:dd1 (dd qs) t=if eqT l t=true then dd qs else dd qs++ [t]:=by
    unfold dd1
    rw [e]
   have e2:dn1 (dd qs) t=if eqT l t=true then dd qs else dd qs++ [t]:=by
    unfold dn1
    rw [ha]
   rw [e1,e2]
   refine ⟨rfl,fun u m=> ?_,?_⟩
   · split at m
     · simp [i2 u m]
     · rcases zf.mp m with m|m
       · simp [i2 u m]
       · simp [ze.mp m]
   · split
     · rename_i z
       rw [e,iQ (tq l (last e).1) tt z]
       simp
     · simp
theorem wK {k:So} {us:List Tr} (hr:Rise us) (ht:∀t∈us,Ty k t):dn us=dd us∧∀u∈dd us,u∈us:=by
 obtain ⟨h1,h2,_⟩:=vW us.length us rfl hr ht
 exact ⟨h1,h2⟩
open PySem L2
theorem uq:∀(n:Nat) (us:List Tr),us.length=n→∀u∈dd us,u∈us:=by
 intro n
 induction n with
 |zero=>
  intro us hl u m
  have:us= []:=A2 hl
  subst this
  exact m
 |succ n ih=>
  intro us hl u m
  obtain ⟨qs,t,rfl⟩:∃qs t,us=qs++ [t]:=by
   have hne:us≠ []:=fun z=>by rw [z] at hl;simp at hl
   exact ⟨us.dropLast,us.getLast hne,(A4 hne).symm⟩
  rw [z9,zO] at hl
  rw [fb] at m
  rcases vX m with m|rfl
  · exact zZ _ (ih qs (by omega) u m)
  · simp
theorem xW:∀(n:Nat) (us:List Tr),us.length=n→(dd us).length≤n:=by
 intro n
 induction n with
 |zero=>
  intro us hl
  have:us= []:=A2 hl
  subst this
  exact yZ _
 |succ n ih=>
  intro us hl
  obtain ⟨qs,t,rfl⟩:∃qs t,us=qs++ [t]:=by
   have hne:us≠ []:=fun z=>by rw [z] at hl;simp at hl
   exact ⟨us.dropLast,us.getLast hne,(A4 hne).symm⟩
  rw [z9,zO] at hl
  rw [fb]
  have:=vY (dd qs) t
  have:=ih qs (by omega)
  omega
end Tre
namespace K25
open PySem L2 Mth Tre Wd Dj
open PySem L2 Mth Tre Wd Dj
open Classical in
noncomputable def rowT (ts:List Tr):Tr:=if h:∃us:List Tr,us.Perm ts∧Rise us then .tup (dd (Classical.choose h)) else .tup []
theorem uW {k:So} {ts us:List Tr} (pm:us.Perm ts) (hr:Rise us) (ty:∀t∈ts,Ty k t):rowT ts= .tup (dd us):=by
 have h:∃us:List Tr,us.Perm ts∧Rise us:=⟨us,pm,hr⟩
 unfold rowT
 rw [dif_pos h]
 have e:Classical.choose h=us:=pb (k:=k) ((Classical.choose_spec h).1.trans pm.symm) (Classical.choose_spec h).2 hr fun t m=>ty t ((Classical.choose_spec h).1.mem_iff.mp m)
 rw [e]
theorem xV:∀(n:Nat) (us:List Tr),us.length=n→∀x∈us,((dn us).any fun u=>eqT u x)=true:=by
 intro n
 induction n with
 |zero=>
  intro us hl x m
  have:us= []:=A2 hl
  subst this
  cases m
 |succ n ih=>
  intro us hl x m
  obtain ⟨qs,t,rfl⟩:∃qs t,us=qs++ [t]:=by
   have hne:us≠ []:=fun z=>by rw [z] at hl;simp at hl
   exact ⟨us.dropLast,us.getLast hne,(A4 hne).symm⟩
  rw [z9,zO] at hl
  rw [lB]
  unfold dn1
  rcases zf.mp m with m|m
  · have:=ih qs (by omega) x m
    split
    · exact this
    · rw [List.any_append,this,Bool.true_or]
  · rw [ze.mp m]
    split
    · assumption
    · rw [List.any_append]
      simp [jq]
structure k9 (ts rs:List Tr):Prop where
 eq:rowT ts= .tup rs
 len:rs.length≤ts.length
 mem:∀x,x∈rs↔x∈ts
theorem wq {ts us:List Tr} (pm:us.Perm ts) (hr:Rise us) (ty:∀t∈ts,Ty .lt t):k9 ts (dd us):=by
 have tyu:∀t∈us,Ty .lt t:=fun t m=>ty t (pm.mem_iff.mp m)
 refine ⟨uW pm hr ty,?_,fun x=>⟨fun m=>pm.mem_iff.mp (uq us.length us rfl x m),fun m=> ?_⟩⟩
 · have:=xW us.length us rfl
   have:=pm.length_eq
   omega
 · have mu:=pm.mem_iff.mpr m
   have h1:=xV us.length us rfl x mu
   rw [(wK (k:= .lt) hr tyu).1] at h1
   obtain ⟨u,m2,e⟩:=Af.mp h1
   have:=iQ (tyu u (uq us.length us rfl u m2)) (tyu x mu) e
   rw [←this]
   exact m2
section
variable {P:Program} {w:World} {K:PySem.W.Frag} {mg:Str→Option Value} {base:Heap}
def im:Sp:=fun vs H Q _=>∃(l:Addr) (ws:List V) (ts:List Tr),vs= [.ref l]∧H l=some (.lst ws)∧TrsAt H ws ts∧ts.length < 64∧(∀t∈ts,Ty .lt t∧t.depth≤30)∧∀(v:V) (H':Hp) (rs:List Tr),Same H H'→k9 ts rs→TrAt H' v (.tup rs)→Q v H'
theorem sj {k:Nat} {f:Addr} {fd:FuncData} (g:FnOk P w K mg base CX0 k f fd ["literals"] wn):FnOk P w K mg base CX0 k f fd ["literals"] im:=g.imp fun vs H Q E ⟨l,ws,ts,e,h1,h2,h3,h4,kk⟩=>
 ⟨l,ws,ts,e,h1,h2,h3,h4,fun v H' us s pm srt hv=>kk v H' (dd us) s (wq pm srt fun t m=>(h4 t m).1) hv⟩
theorem scLr:aD ["_law_literals","_law_kept","_law_one"] ["_law_literals"] (ah jR):=⟨rfl,rfl,rfl,by decide +kernel,rfl,by decide +kernel,by decide +kernel⟩
theorem vv {f:Addr} {fd:FuncData} (F:Fun K "_law_row" "_law_row" jR f fd) (B:Blt mg):FnOk P w K mg base CX0 1 f fd ["_law_literals"] im:=by
 refine F.ok scLr (fun vs H Q E h=> ?_) (fun cdv A outer s H vs Q E hr h=> ?_)
 · obtain ⟨l,ws,ts,rfl,_⟩:=h
   rfl
 obtain ⟨l,ws,ts,rfl,hl,hT,hn,hty,k⟩:=h
 have hun:=hr.units
 refine ⟨_,af (aJ (i:=1) scLr.nd rfl (Or.inl rfl) (cG a9))
  (af (gv PassesOwn.never rfl (hU (ar (fq (zq (zM (by decide) _) hun)) rfl B.so boot_sorted (a8 (pv 0) a9))) (ax (i:=2) scLr.nd rfl (Or.inl rfl))
   (aj (aP (aE (pj (zq (zM (by decide) _) hun)) (pv 2) (pv 1) (by with_unfolding_all rfl))
    (aj (f8 (je PySem.F.plainAttrs_list PySem.F.slot_list_append PySem.F.type_list_append eU (pv 1) (a8 (pv 2) a9)))) au)))
  (aj (am (cn cp rfl B.tu PyProof.Rows.boot_tuple (a8 (pv 1) a9))))),?_⟩
 have hL:(20000:Nat)≤sizeLine:=by decide +kernel
 refine ⟨by show 0≤sizeLine;decide,fun D nD=> ?_⟩
 have s8:Same H (upd H D (.lst [])):=ae nD
 refine ⟨_,rfl,l,ws,ts,rfl,s8 _ _ hl,hT.mono (Kd.of_same s8),hn,fun t mt=>⟨re (.inl (hty t mt).1),cV (hty t mt).1,by have:=(hty t mt).2;omega⟩,fun t mt u mu=>lO 30 (hty t mt).2 (hty t mt).1 (hty u mu).1,fun Z ws' us nZ pm hT' srt=> ?_⟩
 have s9:=ae (o:= .lst ws') nZ
 have nDZ:D≠Z:=fun z=>by rw [←z,aa] at nZ;cases nZ
 have ul:us.length=ts.length:=pm.length_eq
 have wl:=hT'.len
 have hty':∀t∈us,Ty .lt t∧t.depth≤30:=fun t mt=>hty t (pm.mem_iff.mp mt)
 refine ⟨Z,rfl,⟨ws',SqL.of aa⟩,?_⟩
 refine i6 (xs:=ws') (fun i σ H'=>Same H H'∧H' Z=some (.lst ws')∧TrsAt H' ws' us∧∃rs vi,σ= [some (.ref l),some (.ref D),vi]∧H' D=some (.lst rs)∧TrsAt H' rs (dn (us.take i))∧(∀t∈dn (us.take i),t∈us)∧(dn (us.take i)).length≤i)
  ⟨s8.trans s9,aa,hT'.mono (Kd.of_same s9),[],none,rfl,s9 _ _ aa,by simp only [zQ];exact .nil,fun t mt=>(by simp [dn] at mt),by simp [dn]⟩ (fun i σ H' _ p=>SqL.of p.2.1) ?_ ?_
 · rintro i x σ H' ex ⟨sH,hZ,hTS,rs,vi,rfl,hD,hR,hRt,hRl⟩
   obtain ⟨u,eu,hu⟩:=hTS.get' ex
   have mu:=z7 eu
   have ilt:i < us.length:=(zd.mp eu).1
   have et:us.take (i+1)=us.take i++ [u]:=by rw [List.take_add_one,eu];rfl
   have rl:=hR.len
   refine ⟨_,rfl,_,rfl,D,rs,dn (us.take i),u,rfl, .inl hD,hR,hu,fun t mt=>by have:=(hty' t (hRt t mt)).2;omega,cV (hty' u mu).1,_,rfl,?_⟩
   have e1:dn (us.take (i+1))=dn1 (dn (us.take i)) u:=by rw [et,lB]
   have mem1:∀t∈dn (us.take (i+1)),t∈us:=fun t mt=>by
    rw [e1] at mt
    rcases vU mt with mt|rfl
    · exact hRt t mt
    · exact mu
   have len1:(dn (us.take (i+1))).length≤i+1:=by
    rw [e1]
    have:=vV (dn (us.take i)) u
    omega
   cases q:((dn (us.take i)).any fun s=>eqT s u) with
   |false=>
    refine iteT ?_
    refine ⟨_,rfl, .inl ⟨rfl,_,SqL.of hD⟩,_,rfl,D,rs,x,rfl,rfl,hD,by omega,?_⟩
    have kd:=Kd.upd (ys:=rs++ [x]) hD
    refine ⟨br nD sH,(aG nDZ.symm).trans hZ,hTS.mono kd,_,_,rfl,aa,?_,mem1,len1⟩
    have e2:dn1 (dn (us.take i)) u=dn (us.take i)++ [u]:=by
     unfold dn1
     rw [q,if_neg zj]
    rw [e1,e2]
    exact TrsAt.app (.cons (hu.mono kd) .nil) (hR.mono kd)
   |true=>
    refine iteF ?_
    have e2:dn1 (dn (us.take i)) u=dn (us.take i):=by
     unfold dn1
     rw [q,if_pos rfl]
    exact ⟨sH,hZ,hTS,rs,_,rfl,hD,by rw [e1,e2];exact hR,mem1,len1⟩
 · rintro σ H10 ⟨s10,hZ,hTS,rs,vi,rfl,hD,hR,hRt,hRl⟩
   rw [wl,zL] at hR hRt
   obtain ⟨edd,mdd⟩:=wK (k:= .lt) srt fun t mt=>(hty' t mt).1
   rw [edd] at hR
   refine ⟨_,rfl,D,rs,rfl, .inl ⟨SqL.of hD,fun p np=> ?_⟩⟩
   have s14:=ae (o:= .tup rs) np
   exact k (.ref p) _ _ (s10.trans s14) (wq pm srt fun t m=>(hty t m).1) (aU aa (hR.mono (Kd.of_same s14)))
end
end K25
namespace L2
open PySem
theorem nJ:∀c:Nat,c < 128→(Unicode.isAlpha c=true∧Unicode.isLower c=true∧Unicode.isUpper c=false∧Unicode.isTitle c=false∧(97≤c∧c≤122))∨(Unicode.isAlpha c=true∧Unicode.isLower c=false∧Unicode.isUpper c=true∧¬(97≤c∧c≤122))∨(Unicode.isAlpha c=false∧¬(97≤c∧c≤122)):=by
 decide +kernel
theorem wc {p:Nat→Bool} {a:Array Nat}:a.all p=a.toList.all p:=by simp
theorem wa {p:Nat→Bool} {a:Array Nat}:a.any p=a.toList.any p:=by simp
theorem tK (x:Str):(Txt.isascii x&& (Txt.isalpha x&&Txt.islower x))=true↔0 < x.length∧∀c∈x.cps.toList,97≤c∧c≤122:=by
 unfold Txt.isascii Txt.isalpha Txt.islower
 simp only [zS,wc,wa,Ag,Af,decide_eq_true_eq,Bool.not_eq_true',Bool.or_eq_true]
 constructor
 · rintro ⟨h1,⟨h2,h3⟩,h4,h5⟩
   refine ⟨h2,fun c m=> ?_⟩
   rcases nJ c (h1 c m) with ⟨_,_,_,_,k⟩|⟨_,_,k,_⟩|⟨k,_⟩
   · exact k
   · exfalso
     have:(x.cps.toList.any fun c=>Unicode.isUpper c ||Unicode.isTitle c)=true:=Af.mpr ⟨c,m,by rw [k];rfl⟩
     rw [h5] at this
     cases this
   · rw [h3 c m] at k
     cases k
 · rintro ⟨h1,h2⟩
   have asc:∀c∈x.cps.toList,c < 128:=fun c m=>by have:=h2 c m;omega
   have kd:∀c∈x.cps.toList,Unicode.isAlpha c=true∧Unicode.isLower c=true∧Unicode.isUpper c=false∧Unicode.isTitle c=false:=fun c m=>by
    rcases nJ c (asc c m) with ⟨a,b,d,e,_⟩|⟨_,_,_,k⟩|⟨_,k⟩
    · exact ⟨a,b,d,e⟩
    · exact absurd (h2 c m) k
    · exact absurd (h2 c m) k
   refine ⟨asc,⟨h1,fun c m=>(kd c m).1⟩,?_,?_⟩
   · cases e:x.cps.toList with
     |nil=>
      have:x.length=0:=by
       show x.cps.size=0
       rw [←zk,e]
       rfl
      omega
     |cons c l=>exact ⟨c,yY,(kd c (by rw [e];exact yY)).2.1⟩
   · cases e:(x.cps.toList.any fun c=>Unicode.isUpper c ||Unicode.isTitle c) with
     |false=>rfl
     |true=>
      obtain ⟨c,m,k⟩:=Af.mp e
      obtain ⟨_,_,k1,k2⟩:=kd c m
      rw [k1,k2] at k
      cases k
section
variable {X:Cx}
def rBs (g:Str→Bool):V→List V→Hp→VK→Prop:=fun x vs H Q=>∃z,x= .str z∧vs= []∧Q (.bl (g z)) H
theorem oh:MtM X "str.isalpha" (rBs Txt.isalpha):=by
 intro pins s σ H x vs v us Q I rx rv h
 obtain ⟨z,rfl,rfl,q⟩:=h
 obtain ⟨t,rfl⟩:=rx
 cases rv.zero
 exact SC.isalpha ⟨.bl _,H,I,rfl,q⟩
theorem o9:MtM X "str.islower" (rBs Txt.islower):=by
 intro pins s σ H x vs v us Q I rx rv h
 obtain ⟨z,rfl,rfl,q⟩:=h
 obtain ⟨t,rfl⟩:=rx
 cases rv.zero
 exact SC.islower ⟨.bl _,H,I,rfl,q⟩
end
open PySem PySem.Spec PyProof.Rows
section
variable {X:Cx} {CX:CXT} {k i:Nat} {f:Addr} {fd:FuncData} {ps:List Str} {sp:Sp} {x y:Str} {p py pos epos:Pos} {e:Expr} {es:List Expr} {t:TA}
theorem vc (hxe:∀e s,X.xe e s→False) (F:FnOk X.prog X.w X.K X.mg X.base CX k f fd ps sp) (hr:Room k X.A) (hg:Gl X x) (hm:X.mg x=some (.ref f)) (hk:PySem.W.keepIn X.K (.ref f)=true) (hb:Binds X.K fd ps [])
 (ha:PA X (e::es) t) (hN:X.N.Nodup) (hi:X.N[i]?=some y) (hy:X.env.scope.names.lookup y=some .local) (hdb:(x==("__debug__":Str))=false:=by decide) (he:starEach (e::es) X.env=(false,eval e X.env)::starEach es X.env:=by rfl) (hpl:(backTo pos (starEach es X.env)).any (·.1)=false:=by rfl)
 (hs:swapsWith (.Call (.Name x p) (e::es) [] pos) (some (.Name y py)) epos.line X.env=pure false:=by rfl):
 PSX X CX [.Assign [.Name y py] (.Call (.Name x p) (e::es) [] pos) epos] (fun D E σ H=>t σ H fun vs H1=>sp vs H1 (fun v H2=>D.nx (σ.set i (some v)) H2) E):=by
 intro pins s σ H D E I h
 refine wpAny_execs_cons (wpAny_Assign_Name (wpAny_Call_Name_kw (g6 I hg hm ?_ hdb)) hs)
 refine PySem.W.callWith_K (h₀:=X.base) I.ok.mod.kin hk (wpAny_mono (ha pos pins s σ H _ I h) (fun us s1 ⟨vs,H1,I1,r,q⟩=>⟨I1.kIn,?_⟩) fun _ _ z=>(hxe _ _ z).elim) he hpl
 have hl:us.length=ps.length:=by
  have e:=r.length
  rw [F.len _ _ _ _ q] at e
  exact e.symm
 refine wpAny_call (codeAny_mono (F.run X.A X.stack s1 H1 ⟨us,[]⟩ us vs _ E hr I1.env0 (by have:=hb s1 us I1.kIn (by rw [A0];exact hl);rw [A0] at this;exact this) r q) fun r s' hq=> ?_)
 cases r with
 |error e=>exact ⟨H1,s1,I1,hq⟩
 |ok fl=>
  cases fl with
  |ret u=>
   obtain ⟨v,H',I3,rv,q3⟩:=I1.after hq
   exact eP I3 hN hi (.inl hy) rv (fun s2 I2=>wpAny_execs_nil ⟨_,H',I2,q3⟩) (.inr hy)
  |next=>exact False.elim hq
  |brk=>exact False.elim hq
  |cont=>exact False.elim hq
end
section
variable {X:Cx} {pins:List (Addr×Obj)} {σ σ':St} {H:Hp} {s:Shared} {h9:Heap} {tk:Nat}
theorem Inv.goes (I9:Inv X pins σ H s) (sb9:Heap.SameBut X.env.locals s.heap h9) (hl:σ'.length=σ.length)
 (hloc:∃m,h9.Ns X.env.locals m∧∀(i:Nat) (x:Str) (v:V),X.N[i]?=some x→σ'[i]?=some (some v)→Vis X.env.scope x→∃u,RelV v u∧Look X.env h9 m x u):Inv X pins σ' H {s with heap:=h9,toks:=tk}:=by
 have kp:∀b o,b≠X.env.locals→s.heap.get? b=some o→h9.get? b=some o:=fun b o hb q=>(sb9.2 b hb).trans q
 have nL:∀b o,X.s₀.heap.get? b=some o→b≠X.env.locals:=fun b o e=>zg (zl (Heap.lt_size e) I9.ok.above)
 refine ⟨I9.ok,I9.os,I9.bare,⟨fun b o e n hb hx=>kp b o (nL b o e) (I9.base.keep b o e n hb hx),fun b o e n hb hx=> ?_,I9.base.free,fun b o e hx=> ?_,I9.base.tups,I9.base.frzs,I9.base.tbls⟩,hloc,fun y c e=> ?_,I9.free,I9.freeC,fun p hp=> ?_,?_,by rw [hl];exact I9.len⟩
 · obtain ⟨sl,e1⟩:=I9.base.slot b o e n hb hx
   exact ⟨sl,kp b _ (nL b o e) e1⟩
 · obtain ⟨o',e1⟩:=I9.base.there b o e hx
   exact ⟨o',kp b o' (nL b o e) e1⟩
 · obtain ⟨w',z⟩:=I9.cell y c e
   exact ⟨w',z.sameBut sb9 (I9.cne y c e)⟩
 · obtain ⟨e,n1,n2,n3,n4⟩:=I9.pin p hp
   exact ⟨kp _ _ n2 e,n1,n2,n3,n4⟩
 · intro b ob' q
   have nb:b≠X.env.locals:=fun z=>by rw [z,I9.free] at q;cases q
   refine (I9.hok b ob' q).stay (fun c u hc r=>kp c u ?_ r) (fun _ r=>r) fun _ _ r=>r
   rcases hc with z|z
   · rw [z];exact nb
   · intro y
     rw [y,I9.free] at z
     cases z
end
section
variable {X:Cx} {body suite:List Stmt} {b0:Stmt} {tb:TSX} {ts:TS} {i:Nat} {n cx:Str} {np hpos pos:Pos} {W:Addr}
def ye (K:PySem.W.Frag) (W:Addr) (i:Nat) (tb:TSX) (ts:TS):TS:=fun D σ H=>tb D (fun cls _ H'=>∃C,cls= .ref C∧PySem.W.exmOne K (.ref C) (.ref W)=some true∧
 ∀a,H' a=none→ts {nx:=fun σ' H''=>D.nx (σ'.set i none) H'',rt:=D.rt} (σ.set i (some (.ref a))) (upd H' a (Cau C a))) σ H
theorem vd (hstk:X.stack=X.env::X.outer) (hfr:X.env.frame=some X.env.locals) (hN:X.N.Nodup) (hi:X.N[i]?=some n) (hn:X.env.scope.names.lookup n=some .local) (hg:Gl X cx) (hm:X.mg cx=some (.ref W))
 (hb:PSX X (CX1 X.prog X.w) body tb) (hs:∀a,PSs (X.caught a) (b0::suite) ts) (hd:(cx==("__debug__":Str))=false:=by decide):
 PS X (.Try body [.ExceptHandler (some (.Name cx np)) (some n) (b0::suite) hpos] [] [] pos) (ye X.K W i tb ts):=by
 intro pins s σ H D I h
 show wpAny _ _ (do standAt pos;tryStmt false (execs body X.env) [.ExceptHandler (some (.Name cx np)) (some n) (b0::suite) hpos] (execs [] X.env) [] X.env) _ _ s
 refine wpAny_bind (wpAny_standAt (wpAny_tryStmt_except (wpAny_mono (hb pins s σ H D _ I h) (fun f s1 q=> ?_) fun e s1 ⟨H0,s0,I0,cxq⟩=> ?_)))
 · cases f with
   |next=>exact wpAny_execs_nil q
   |brk=>exact q
   |cont=>exact q
   |ret v=>exact q
 · obtain ⟨a,C,a0,B,H',rfl,os,bare,nA,nH,okB,fl,kB,slB,frB,thB,tu,fz,tbb,C',eC,hx,hsu⟩:=cxq
   cases eC
   have fl':=fl
   rw [hstk] at fl'
   have inv:∀h6,Heap.FlyingW B X.stack a (.ref C) a0 h6→s1.heap.UpToSlots h6→Inv X pins σ (upd H' a (Cau C a)) {s1 with heap:=h6}:=fun h6 q1 q2=>I0.flown os bare nA nH okB kB slB frB thB tu fz tbb fl q1 q2
   refine wpAny_looks_onW (L:=X.env.locals) (by rw [I0.ok.frames,hstk]) hfr fl' fun h4 held4 sm4=> ?_
   refine wpAny_landsW held4 fun h5 fl5 sm5=> ?_
   have sm45:s1.heap.UpToSlots h5:=sm4.trans sm5
   have I5:=inv h5 (by rw [hstk];exact fl5) sm45
   refine wpAny_handleBy_cons (codeAny_handlers_test (g6 (X:=X.caught a) (I5.caught a) hg hm ?_ hd)) (by intro q;cases q)
   obtain ⟨ob,hob,hoc⟩:=fl5.there
   have LT:PySem.W.Looks (model X.prog X.w) h5 (typeOf (.ref a)) (.ref C):=by
    have:=((PySem.W.Looks.ld (M:=model X.prog X.w) (part:=some headPart) hob).andThen (f:=fun o=>pure o.cls) .now)
    rw [hoc] at this
    exact this
   refine (PySem.W.exm_one (K:=X.K) (h:=h5) I5.kIn LT hx).here (codeAny_handlers_suite_as ?_)
   refine PyProof.Rows.lands_againW fl5 fun h6 fl6 sm6=> ?_
   have I6:=inv h6 (by rw [hstk];exact fl6) (sm45.trans sm6)
   refine eP (X:=X.caught a) (v:= .ref a) (I6.caught a) hN hi (.inl hn) rfl (fun s7 I7=> ?_) (.inr hn)
   refine wpAny_noRaise (wpAny_mono (hs a pins s7 _ _ _ I7 (hsu a nH)) (fun fl s8 q8=> ?_) fun _ _ z=>z)
   cases fl with
   |next=>
    obtain ⟨σ8,H8,I8,z8⟩:=q8
    have I8':=I8.uncaught I.ok
    obtain ⟨m,hnm,hlm⟩:=id I8'.loc
    refine wpAny_nameGoes_keeps hn hnm (by rw [I.ok.kind];rfl) fun h9 v9 hn9 sb9=> ?_
    refine ⟨σ8.set i none,H8,I8'.goes sb9 (by simp) ⟨_,hn9,fun j y v' e1 e2 e3=> ?_⟩,z8⟩
    have hj:j≠i:=fun z=>by
     subst z
     rw [List.getElem?_set] at e2
     simp at e2
    rw [List.getElem?_set_ne (Ne.symm hj)] at e2
    obtain ⟨u,r,q⟩:=hlm j y v' e1 e2 e3
    refine ⟨u,r,?_⟩
    rcases q with ⟨k,e⟩|⟨k,c,e,z⟩
    · refine .inl ⟨k,?_⟩
      have ne:y≠n:=fun e=>hj (jj hN e1 (e▸hi))
      dsimp only
      rw [if_neg ne]
      exact e
    · exact .inr ⟨k,c,e,z.sameBut sb9 (I8'.cne y c e)⟩
   |brk=>obtain ⟨_,_,_,z⟩:=q8;exact z.elim
   |cont=>obtain ⟨_,_,_,z⟩:=q8;exact z.elim
   |ret u=>
    obtain ⟨v,σ8,H8,I8,r8,z8⟩:=q8
    have I8':=I8.uncaught I.ok
    obtain ⟨m,hnm,_⟩:=id I8'.loc
    refine wpAny_nameGoes hn hnm (by rw [I.ok.kind];rfl) fun h9 m9 hn9 sb9=> ?_
    refine ⟨v,σ8.map fun _=>none,H8,I8'.goes sb9 (by simp) ⟨m9,hn9,fun j y v' e1 e2 e3=> ?_⟩,r8,z8⟩
    rw [zF] at e2
    cases q:σ8[j]? with
    |none=>rw [q] at e2;cases e2
    |some y=>rw [q] at e2;cases e2
end
structure nK (P:Program) (w:World) (K:PySem.W.Frag) (mg:Str→Option Value) (base:Heap) (k:Nat) (f:Addr) (fd:FuncData) (ps:List Str) (sp:Sp):Prop where
 len:∀vs H Q E,sp vs H Q E→vs.length=ps.length
 run:∀(A:Around) (a:Addr) (outer:List Env) (s:Shared) (H:Hp) (args:Args) (us:List Value) (vs:List V) (Q:VK) (E:XK),Room k A→Env0 P w K mg base A outer s H→BindsTo s fd args (ps.zip us)→Vals vs us→sp vs H Q E→
  codeAny (model P w) (A.mark (some (.ref a))) (.call (.ref f) args) (CR CX0 outer P w H s Q E) s
theorem xT {P:Program} {w:World} {K:PySem.W.Frag} {mg:Str→Option Value} {base:Heap} {k:Nat} {f:Addr} {name qual:Str} {params:Arguments} {body:List Stmt} {scope:Scope} {dV kV doc pm cdv ct oc:Value} {an od:Option Addr}
 {osl:Array (Option Value)} {N ps:List Str} {sp:Sp} (lk:K.lookup f=some ⟨oc,od, .func (PySem.W.fnOf name qual params body scope dV kV doc pm an cdv ct),osl⟩) (hcd:PySem.W.codeIn K cdv qual=true) (S:aD N ps scope)
 (len:∀vs H Q E,sp vs H Q E→vs.length=ps.length)
 (hbody:∀(A:Around) (a:Addr) (outer:List Env) (s:Shared) (H:Hp) (vs:List V) (Q:VK) (E:XK),Room k (A.deeper (envOfC qual scope s.heap.objs.size f cdv))→sp vs H Q E→
  ∃t,PSs ((cxOf CX0 P w K mg base N qual scope f cdv A outer s H E).caught a) body t∧t {nx:=fun _ H'=>Q .non H',rt:=Q} (eQ N vs) H):
 nK P w K mg base (k+1) f (PySem.W.fnOf name qual params body scope dV kV doc pm an cdv ct) ps sp:=by
 refine ⟨len,fun A a outer s H args us vs Q E hr e0 hb r hsp=> ?_⟩
 have hl:=len _ _ _ _ hsp
 have KX:K.In s.heap:=e0.mod.kin.keeps fun b o e=>(e0.bs b o e).1
 have lim:s.heap.NoLimit:=e0.mod.nolimit.keeps fun b o e=>(e0.bs b o e).1
 have hkind:∀y∈ps.zip us,scope.names.lookup y.1=some .local∨(scope.names.lookup y.1=some .cell∧((cellsFrom (s.heap.objs.size+1) scope.names []).lookup y.1).isSome=true):=fun ⟨n,v⟩ hy=>by
  rcases S.par n (List.of_mem_zip hy).1 with q|q
  · exact .inl q
  · exact .inr ⟨q,PySem.W.cellsFrom_some _ _ _ (.inl q)⟩
 refine codeAny_call_function hr.depth (KX _ _ lk) rfl S.co S.gen rfl (PySem.W.codeRec_of KX hcd) (hb _ _ _ _ ?_)
 refine wpAny_newFunctionEnv_cells S.kind hkind fun env he s1 x=> ?_
 subst he
 refine ⟨lim.keeps x.toInCall.keep,codeAny_func ?_⟩
 obtain ⟨t,ht,hq⟩:=hbody A a outer s H vs Q E (hr.deeper _) hsp
 have I:Inv ((cxOf CX0 P w K mg base N qual scope f cdv A outer s H E).caught a) [] (eQ N vs) H s1:=(jU S hr.hd e0 hl r x).caught a
 refine wpAny_mono (ht [] s1 (eQ N vs) H _ I hq) (fun fl s' hs=> ?_) fun e s' hs=>hs.elim
 have fin:∀ {σ':St} {H':Hp} {v:V} {u:Value},Inv ((cxOf CX0 P w K mg base N qual scope f cdv A outer s H E).caught a) [] σ' H' s'→RelV v u→Q v H'→CE outer P w H s Q u s':=
  fun {σ' H' v u} J rv q=>⟨v,H',J.os,J.bare,J.base,J.hok,rv,q⟩
 cases fl with
 |ret u=>
  obtain ⟨v,σ',H',J,rv,q⟩:=hs
  exact fin J rv q
 |next=>
  obtain ⟨σ',H',J,q⟩:=hs
  exact fin (v:=V.non) (u:=Value.none) J rfl q
 |brk=>
  obtain ⟨_,_,_,q⟩:=hs
  exact False.elim q
 |cont=>
  obtain ⟨_,_,_,q⟩:=hs
  exact False.elim q
theorem Fun.okC {P:Program} {w:World} {K:PySem.W.Frag} {mg:Str→Option Value} {base:Heap} {x qual:Str} {st:Stmt} {f:Addr} {fd:FuncData} {N ps:List Str} {k:Nat} {sp:Sp} (F:Fun K x qual st f fd) (S:aD N ps (ah st))
 (len:∀vs H Q E,sp vs H Q E→vs.length=ps.length)
 (hbody:∀(cdv:Value) (A:Around) (a:Addr) (outer:List Env) (s:Shared) (H:Hp) (vs:List V) (Q:VK) (E:XK),Room k (A.deeper (envOfC qual (ah st) s.heap.objs.size f cdv))→sp vs H Q E→
  ∃t,PSs ((cxOf CX0 P w K mg base N qual (ah st) f cdv A outer s H E).caught a) (ay st) t∧t {nx:=fun _ H'=>Q .non H',rt:=Q} (eQ N vs) H):nK P w K mg base (k+1) f fd ps sp:=by
 obtain ⟨oc,od,kV,doc,pm,an,cdv,ct,osl,rfl,lk,hcd⟩:=F.ex
 exact xT lk hcd S len fun A a outer s H vs Q E hr hsp=>hbody cdv A a outer s H vs Q E hr hsp
section
variable {X:Cx} {k:Nat} {f a:Addr} {fd:FuncData} {ps:List Str} {sp:Sp} {E:XK} {x:Str} {p pos:Pos} {e:Expr} {es:List Expr} {t:TA}
theorem sQ (F:nK X.prog X.w X.K X.mg X.base k f fd ps sp) (hr:Room k X.A) (hg:Gl (X.caught a) x) (hm:X.mg x=some (.ref f)) (hk:PySem.W.keepIn X.K (.ref f)=true) (hb:Binds X.K fd ps [])
 (ha:PA (X.caught a) (e::es) t) (hdb:(x==("__debug__":Str))=false:=by decide) (he:starEach (e::es) (X.caught a).env=(false,eval e (X.caught a).env)::starEach es (X.caught a).env:=by rfl) (hpl:(backTo pos (starEach es (X.caught a).env)).any (·.1)=false:=by rfl):
 PE (X.caught a) (.Call (.Name x p) (e::es) [] pos) (wk sp [] E0 t):=by
 intro pins s σ H Q I h
 refine wpAny_Call_Name_kw (g6 I hg hm ?_ hdb)
 refine PySem.W.callWith_K (h₀:=X.base) I.ok.mod.kin hk (thn (ha pos pins s σ H _ I h) fun us s1 ⟨vs,H1,I1,r,q⟩=>⟨I1.kIn,?_⟩) he hpl
 have r2:Vals (vs++ []) (us++ []):=r.append .nil
 have hl:(us++ []).length=ps.length:=by rw [←r2.length];exact F.len _ _ _ _ q
 have e0:=I1.env0
 refine wpAny_call (codeAny_mono (F.run X.A a X.stack s1 H1 ⟨us,[]⟩ (us++ []) (vs++ []) Q E0 hr ⟨e0.frames,e0.mod,e0.bs,e0.bsz,e0.funs,e0.frf,e0.hok,e0.bare⟩ (hb s1 us I1.kIn hl) r2 q) fun r s' hq=> ?_)
 cases r with
 |error e=>exact (show False from hq)
 |ok fl=>
  cases fl with
  |ret u=>exact I1.after hq
  |next=>exact False.elim hq
  |brk=>exact False.elim hq
  |cont=>exact False.elim hq
end
open PySem PySem.Spec PyProof.Rows
theorem yv {P:Program} {w:World} {K:PySem.W.Frag} {mg:Str→Option Value} {base:Heap} {N:List Str} {qual:Str} {scope:Scope} {f:Addr} {cd:Value} {A:Around} {outer:List Env} {s:Shared} {H:Hp} {E:XK}:
 iJ (CX1 P w) (cxOf (CX1 P w) P w K mg base N qual scope f cd A outer s H E) E:=by
 intro pins σ H1 s1 e s' I h
 obtain ⟨a,C,a0,B,H',rfl,os,bare,nA,nH,okB,fly,kB,sl,fr,th,tu,fz,tb,hE⟩:=h
 have hfl:(envOfC qual scope s.heap.objs.size f cd).frame=some s.heap.objs.size:=rfl
 have nL:∀b o,s.heap.get? b=some o→b≠s.heap.objs.size:=fun b o q=>zg (Heap.lt_size q)
 have nfr:∀b o,s.heap.get? b=some o→b∉frs outer→b∉frs (envOfC qual scope s.heap.objs.size f cd::outer):=fun b o q h2 z=>by
  rcases frs_cons.mp z with z|z
  · rw [hfl] at z
    exact nL b o q (zu z).symm
  · exact h2 z
 have un:Un (frs outer) [] H H1 s.heap s1.heap:=I.base
 have stk:s1.heap.FunFrames base (envOfC qual scope s.heap.objs.size f cd::outer):=I.stack
 refine wpAny_leaves_onW (A:=A.deeper (envOfC qual scope s.heap.objs.size f cd)) (L:=s.heap.objs.size) I.ok.frames hfl fly fun h' fly' up=> ?_
 refine ⟨a,C,a0,B,H',rfl,os.trans I.os,bare,?_,nH,okB,fly',?_,?_,?_,?_,?_,?_,?_,hE⟩
 · cases q:s.heap.get? a with
   |none=>rfl
   |some o=>
    obtain ⟨o',e1⟩:=un.there a o q (by simp)
    rw [nA] at e1
    cases e1
 · exact fun b o q n hb=>kB b o (un.keep b o q n hb (by simp)) (un.idl q n (by simp)) (nfr b o q hb)
 · intro b o q n hb
   obtain ⟨sl1,e1⟩:=un.slot b o q n hb (by simp)
   obtain ⟨sl2,e2⟩:=sl b _ e1 (un.free b o q n (by simp)) (frs_cons.mpr (.inr hb))
   have nd:=(stk.mem (b:=b) (frs_cons.mpr (.inr hb))).2
   obtain ⟨o1,e3,d3⟩:=nd
   rw [e1] at e3
   cases e3
   obtain ⟨sl3,e4⟩:=up b _ e2 d3
   exact ⟨sl3,e4⟩
 · exact fun b o q n=>by
    obtain ⟨o',e1⟩:=un.there b o q (by simp)
    exact fr b o' e1 (un.free b o q n (by simp))
 · intro b o q hb
   obtain ⟨o',e1⟩:=un.there b o q (by simp)
   exact th b o' e1 (nfr b o q hb)
 · exact fun b xs q=>tu b xs (un.tups b xs q)
 · exact fun b o u q=>fz b o u (un.frzs b o u q)
 · intro b ps q
   obtain ⟨m1,q1⟩:=un.tbls b ps q
   obtain ⟨m2,q2⟩:=tb b _ q1
   exact ⟨m1++m2,by rw [q2,Array.append_assoc]⟩
theorem eF {X:Cx} {b:List Stmt}:PSs X b (fun _ _ _=>False):=fun _ _ _ _ _ _ h=>h.elim
end L2
namespace K25
open PySem L2 Mth Tre Wd Dj
theorem ko {r:List V→Hp→VK→Prop} {te:TE} {σ:L2.St} {H:Hp} {Q:VK} (h:te σ H fun v H1=>r [v] H1 Q):tCB r (cO te tNil) σ H Q:=h
theorem lQ {te:TE} {Z:Ends} {σ:L2.St} {H:Hp} (h:te σ H Z.rt):tRet te Z σ H:=h
theorem lx (K:PySem.W.Frag):PySem.W.kitOne K (.type "tuple") (.type "tuple")=some true:=by kernel_rfl
theorem xJ (K:PySem.W.Frag):PySem.W.kitOne K (.type "str") (.type "str")=some true:=by kernel_rfl
theorem wM {H:Hp} {v:V} {x:Str} (h:TrAt H v (.str x)):v= .str x:=by unfold TrAt at h;exact h
theorem vw {x:Str} (h:Trm.Nm x):Txt.isascii x=true∧Txt.isalpha x=true∧Txt.islower x=true:=by
 have e:=(tK x).mpr ⟨h.pos,fun c m=>h.ltr c m⟩
 rw [zS,zS] at e
 exact e
section
variable {P:Program} {w:World} {K:PySem.W.Frag} {mg:Str→Option Value} {base:Heap}
def spTo:Sp:=fun vs H Q _=>∃(r:Addr) (xs:List V) (n:Int),vs= [.ref r, .int n]∧H r=some (.tup xs)∧Q (.bl (decide ((xs.length:Int)=n))) H
theorem ym:aD ["thing","count"] ["thing","count"] (ah sIto):=⟨rfl,rfl,rfl,by decide +kernel,rfl,by decide +kernel,by decide +kernel⟩
theorem yB {f:Addr} {fd:FuncData} (F:Fun K "is_tuple_of" "is_tuple_of" sIto f fd) (B:Blt mg):FnOk P w K mg base CX0 1 f fd ["thing","count"] spTo:=by
 refine F.ok ym (fun vs H Q E h=> ?_) (fun cdv A outer s H vs Q E hr h=> ?_)
 · obtain ⟨r,xs,n,rfl,_⟩:=h
   rfl
 obtain ⟨r,xs,n,rfl,g,k⟩:=h
 refine ⟨_,aj (am (c9 (ar (r:=rIsi K) aX rfl B.isi ao (a8 (pv 0) (a8 (bh (v:= .ty "tuple") rfl B.tu PyProof.Rows.boot_tuple rfl) a9))) (cF (bJ bY (ar bp rfl B.le PySem.boot_len (a8 (pv 0) a9)) (pv 1) (aA _))))),?_⟩
 refine ⟨_,rfl, .ref r, .ty "tuple", .type "tuple",true,rfl, .of (.tup g), .inl ⟨rfl,lx K⟩,_,rfl,?_⟩
 refine iteT ?_
 refine ⟨_,rfl,r,xs,rfl, .inr (SqT.of g),_,rfl,rfl,?_⟩
 have e:decide (V.int (xs.length:Int)=V.int n)=decide ((xs.length:Int)=n):=by
  by_cases z:(xs.length:Int)=n
  · rw [decide_eq_true z,decide_eq_true (congrArg V.int z)]
  · rw [decide_eq_false z,decide_eq_false (fun q=>z (V.int.inj q))]
 rw [e]
 exact k
def spNq:Sp:=fun vs H Q _=>∃(x:Str),vs= [.str x]∧Trm.Nm x∧Q (.bl true) H
theorem scNq:aD ["thing"] ["thing"] (ah sNmQ):=⟨rfl,rfl,rfl,by decide +kernel,rfl,by decide +kernel,by decide +kernel⟩
theorem yG {f:Addr} {fd:FuncData} {tk:Tok} (F:Fun K "is_name" "is_name" sNmQ f fd) (B:Blt mg) (mL:mg "MOST_LETTERS"=some (.int 8 tk)):FnOk P w K mg base CX0 1 f fd ["thing"] spNq:=by
 refine F.ok scNq (fun vs H Q E h=> ?_) (fun cdv A outer s H vs Q E hr h=> ?_)
 · obtain ⟨x,rfl,_⟩:=h
   rfl
 obtain ⟨x,rfl,hx,k⟩:=h
 refine ⟨_,af (aP (PW.pt (cP (cj (bf (ar (r:=rIsi K) aX rfl B.isi ao (a8 (pv 0) (a8 (bh (v:= .ty "str") rfl B.st PyProof.Rows.boot_str rfl) a9))))) (cR (aE gh (ar lF rfl B.le PySem.boot_len (a8 (pv 0) a9)) (ck (v:= .int 8) rfl mL ⟨_,rfl⟩) (aA _))))) (aj (am cQ)) au)
  (aj (am (c9 (l9 PySem.F.plainAttrs_str PySem.F.slot_str_isascii PySem.F.type_str_isascii og (pv 0)) (c9 (l9 PySem.F.plainAttrs_str PySem.F.slot_str_isalpha PySem.F.type_str_isalpha oh (pv 0)) (cF (l9 PySem.F.plainAttrs_str PySem.F.slot_str_islower PySem.F.type_str_islower o9 (pv 0))))))),?_⟩
 obtain ⟨t1,t2,t3⟩:=vw hx
 have hl:=hx.le
 refine ⟨_,rfl, .str x, .ty "str", .type "str",true,rfl, .of (.str x), .inl ⟨rfl,xJ K⟩,_,rfl,?_⟩
 refine iteF ?_
 refine ⟨_,rfl,x,rfl,zJ hl (by decide +kernel),_,8,rfl,rfl,_,rfl,?_⟩
 refine if_f (decide_eq_false (by omega)) ?_
 refine ⟨_,rfl,rfl,x,rfl,rfl,_,rfl,?_⟩
 refine if_t t1 ?_
 refine ⟨_,rfl,rfl,x,rfl,rfl,_,rfl,?_⟩
 refine if_t t2 ?_
 refine ⟨_,rfl,rfl,x,rfl,rfl,?_⟩
 rw [t3]
 exact k
def spTq (n:Nat):Sp:=fun vs H Q _=>∃(v:V) (t:Tr),vs= [v]∧TrAt H v t∧Ln t∧t.depth < n∧∀H',Same H H'→Q (.bl true) H'
def spCq (n:Nat):Sp:=fun vs H Q _=>∃(v:V) (ts:List Tr),vs= [v]∧TrAt H v (.tup ts)∧0 < ts.length∧ts.length≤3∧(∀t∈ts,Ln t∧t.depth < n)∧∀H',Same H H'→Q (.bl true) H'
theorem scTq:aD ["thing"] ["thing"] (ah sTmQ):=⟨rfl,rfl,rfl,by decide +kernel,rfl,by decide +kernel,by decide +kernel⟩
theorem scCq:aD ["thing"] ["thing"] (ah sCtQ):=⟨rfl,rfl,rfl,by decide +kernel,rfl,by decide +kernel,by decide +kernel⟩
theorem oK {n:Nat}:(List.replicate n true).all id=true:=by
 induction n with
 |zero=>rfl
 |succ n ih=>rw [List.replicate_succ,List.all_cons,ih];rfl
theorem yM {f fT:Addr} {fd dT:FuncData} {n:Nat} {tk:Tok} (F:Fun K "are_call_terms" "are_call_terms" sCtQ f fd) (B:Blt mg) (mL:mg "MOST_IN_CALL"=some (.int 3 tk))
 (gT:FnOk P w K mg base CX0 (2*n+1) fT dT ["thing"] (spTq n)) (kT:PySem.W.keepIn K (.ref fT)=true) (bT:Binds K dT ["thing"] []) (mT:mg "is_term"=some (.ref fT)):FnOk P w K mg base CX0 (2*n+2) f fd ["thing"] (spCq n):=by
 refine F.ok scCq (fun vs H Q E h=> ?_) (fun cdv A outer s H vs Q E hr h=> ?_)
 · obtain ⟨v,ts,rfl,_⟩:=h
   rfl
 obtain ⟨v,ts,rfl,hv,l0,l3,hts,k⟩:=h
 refine ⟨_,af (aP (PW.pt (cP (cj (bf (ar (r:=rIsi K) aX rfl B.isi ao (a8 (pv 0) (a8 (bh (v:= .ty "tuple") rfl B.tu PyProof.Rows.boot_tuple rfl) a9))))) (cR (cj (sI wx wx ac (ar bp rfl B.le PySem.boot_len (a8 (pv 0) a9)) (ck (v:= .int 3) rfl mL ⟨_,rfl⟩)))))) (aj (am cQ)) au)
  (aj (am (ar (eX rfl) rfl B.al PyProof.Rows.boot_all (a8 (bZ (NC:= ["inner"]) (mp:= [none]) rfl (cL (pv 0)) (fun _ _ _ _ _=>ax (i:=0) (by simp) rfl (Or.inl rfl)) (fun _ _ _ _ _=>bw) (fun _ _ _ _ _=>ai gT hr rfl mT kT bT .nil ak (a8 (pv 0) a9))) a9)))),?_⟩
 have hL20:(20000:Nat)≤sizeLine:=by decide +kernel
 obtain ⟨r,xs,rfl,g,hxs⟩:=at_t hv
 have xl:=hxs.len
 refine ⟨_,rfl, .ref r, .ty "tuple", .type "tuple",true,rfl, .of (.tup g), .inl ⟨rfl,lx K⟩,_,rfl,?_⟩
 refine iteF ?_
 refine ⟨_,rfl,r,xs,rfl, .inr (SqT.of g),1,_,rfl,rfl,_,rfl,?_⟩
 refine if_t (decide_eq_true (by omega)) ?_
 refine ⟨_,_,rfl,rfl,_,rfl,?_⟩
 refine if_f (by rw [decide_eq_true (by omega)];rfl) ?_
 refine kj ?_
 dsimp only
 refine lQ ?_
 refine ko ?_
 refine cJ (rest:= []) rfl ?_
 refine ⟨_,rfl,r,rfl,⟨xs,SqT.of g⟩,fun L nL=> ?_⟩
 refine dy (xs:=xs) (fun i acc H'=>Same H H'∧H' L=some (.lst acc)∧acc=(List.replicate i true).map V.bl) ⟨ae nL,aa,rfl⟩ (fun i acc H' p=>SqT.of (p.1 _ _ g)) ?_ ?_
 · rintro i z acc H' hi ez ⟨sH,hL,rfl⟩
   obtain ⟨t',et,ht'⟩:=(hxs.mono (Kd.of_same sH)).get' ez
   have mt:=z7 et
   refine ⟨_,rfl,z,t',rfl,ht',(hts t' mt).1,(hts t' mt).2,fun H6 s6=> ?_⟩
   refine CompN.mk hi (by rw [yW,Ai];omega) (s6 _ _ hL) ⟨br nL (sH.trans s6),aa,?_⟩
   rw [List.replicate_succ',zh]
   rfl
 · rintro acc H' ⟨sH,hL,rfl⟩
   refine ⟨L,_,rfl,SqL.of hL,?_⟩
   rw [oK]
   exact k H' sH
theorem xv {f fO fN fC:Addr} {fd dO dN dC:FuncData} {n:Nat} (F:Fun K "is_term" "is_term" sTmQ f fd)
 (gO:FnOk P w K mg base CX0 1 fO dO ["thing","count"] spTo) (kO:PySem.W.keepIn K (.ref fO)=true) (bO:Binds K dO ["thing","count"] []) (mO:mg "is_tuple_of"=some (.ref fO))
 (gN:FnOk P w K mg base CX0 1 fN dN ["thing"] spNq) (kN:PySem.W.keepIn K (.ref fN)=true) (bN:Binds K dN ["thing"] []) (mN:mg "is_name"=some (.ref fN))
 (gC:FnOk P w K mg base CX0 (2*n+2) fC dC ["thing"] (spCq n)) (kC:PySem.W.keepIn K (.ref fC)=true) (bC:Binds K dC ["thing"] []) (mC:mg "are_call_terms"=some (.ref fC)):FnOk P w K mg base CX0 (2*n+3) f fd ["thing"] (spTq (n+1)):=by
 refine F.ok scTq (fun vs H Q E h=> ?_) (fun cdv A outer s H vs Q E hr h=> ?_)
 · obtain ⟨v,t,rfl,_⟩:=h
   rfl
 obtain ⟨v,t,rfl,hv,hln,hd,k⟩:=h
 have hr1:Room 1 _:=hr.mono (by omega)
 refine ⟨_,af (aP (bf (ai gO hr1 rfl mO kO bO .nil ak (a8 (pv 0) (a8 ac a9)))) (aj (am (c9 (bJ bY (aw aq (pv 0) ac fun _ _=>rfl) aY (aA _)) (cF (ai gN hr1 rfl mN kN bN .nil ak (a8 (aw aq (pv 0) ac fun _ _=>rfl) a9)))))) au)
  (af (aP (bf (ai gO hr1 rfl mO kO bO .nil ak (a8 (pv 0) (a8 ac a9)))) (aj (am (c9 (bJ bY (aw aq (pv 0) ac fun _ _=>rfl) aY (aA _)) (c9 (ai gN hr1 rfl mN kN bN .nil ak (a8 (aw aq (pv 0) ac fun _ _=>rfl) a9)) (cF (ai gC hr rfl mC kC bC .nil ak (a8 (aw aq (pv 0) ac fun _ _=>rfl) a9))))))) au)
  (aj (am cQ))),?_⟩
 cases hln with
 |nm x hx=>
  obtain ⟨r,y,rfl,g,hy⟩:=at2 hv
  cases wM hy
  refine ⟨_,rfl,r,_,2,rfl,g,_,rfl,?_⟩
  refine if_t (decide_eq_true rfl) ?_
  refine ⟨_,rfl,r,_,0,_,rfl,rfl,SqT.of g,rfl,rfl,_,rfl,?_⟩
  refine if_t (decide_eq_true rfl) ?_
  exact ⟨_,rfl,r,_,1,_,rfl,rfl,SqT.of g,rfl,x,rfl,hx,k H (Same.refl H)⟩
 |ap f ts hf l0 l3 hts=>
  obtain ⟨r,y,z,rfl,g,hy,hz⟩:=at3 hv
  cases wM hy
  refine ⟨_,rfl,r,_,2,rfl,g,_,rfl,?_⟩
  refine if_f (decide_eq_false (by show¬((3:Nat):Int)=2;decide)) ?_
  refine ⟨_,rfl,r,_,3,rfl,g,_,rfl,?_⟩
  refine if_t (decide_eq_true rfl) ?_
  refine ⟨_,rfl,r,_,0,_,rfl,rfl,SqT.of g,rfl,rfl,_,rfl,?_⟩
  refine if_t (decide_eq_true rfl) ?_
  refine ⟨_,rfl,r,_,1,_,rfl,rfl,SqT.of g,rfl,f,rfl,hf,_,rfl,?_⟩
  refine iteT ?_
  refine ⟨_,rfl,r,_,2,z,rfl,rfl,SqT.of g,rfl,z,ts,rfl,hz,l0,l3,fun t m=>⟨hts t m,?_⟩,k⟩
  have:=cm m
  simp only [Tr.depth,Trs.depth] at hd
  omega
theorem yA {f fO fN fC:Addr} {fd dO dN dC:FuncData} {tk:Tok} (F:Fun K "is_term" "is_term" sTmQ f fd) (bF:Binds K fd ["thing"] []) (mF:mg "is_term"=some (.ref f)) (FC:Fun K "are_call_terms" "are_call_terms" sCtQ fC dC) (B:Blt mg) (mL:mg "MOST_IN_CALL"=some (.int 3 tk))
 (gO:FnOk P w K mg base CX0 1 fO dO ["thing","count"] spTo) (kO:PySem.W.keepIn K (.ref fO)=true) (bO:Binds K dO ["thing","count"] []) (mO:mg "is_tuple_of"=some (.ref fO))
 (gN:FnOk P w K mg base CX0 1 fN dN ["thing"] spNq) (kN:PySem.W.keepIn K (.ref fN)=true) (bN:Binds K dN ["thing"] []) (mN:mg "is_name"=some (.ref fN))
 (bC:Binds K dC ["thing"] []) (mC:mg "are_call_terms"=some (.ref fC)):∀n,FnOk P w K mg base CX0 (2*n+1) f fd ["thing"] (spTq n):=by
 intro n
 induction n with
 |zero=>exact ⟨fun vs H Q E ⟨_,_,_,_,_,h,_⟩=>absurd h (by omega),fun A outer s H args us vs Q E _ _ _ _ ⟨_,_,_,_,_,h,_⟩=>absurd h (by omega)⟩
 |succ n ih=>exact xv F gO kO bO mO gN kN bN mN (yM FC B mL ih F.kp bF mF) FC.kp bC mC
end
end K25
namespace K25
open PySem L2 Mth Tre Wd Su
def eb (p:Fr):Nat:=Nat.log2 (max p.1.natAbs p.2.natAbs)+1
theorem yR {e:Nat} {p:Fr} (h:Gf e p):Gf (eb p) p:=by
 have hp:=h.pos
 have hm:max p.1.natAbs p.2.natAbs≠0:=by omega
 have:=Nat.lt_log2_self (n:=max p.1.natAbs p.2.natAbs)
 refine ⟨hp,?_,?_⟩
 · show p.1.natAbs < 2^(Nat.log2 _+1)
   omega
 · show p.2.natAbs < 2^(Nat.log2 _+1)
   omega
theorem wJ {e:Nat} {p:Fr} (h:Gf e p):eb p≤e:=by
 have hp:=h.pos
 have hm:max p.1.natAbs p.2.natAbs≠0:=by omega
 have h1:p.1.natAbs < 2^e:=h.top
 have h2:p.2.natAbs < 2^e:=h.bot
 have:=(Nat.log2_lt hm).mpr (show max p.1.natAbs p.2.natAbs < 2^e by omega)
 unfold eb
 omega
open Classical in
noncomputable def wts (t:Tr):List Pq→Nat
 | []=>0
 |p::r=>(if p.1=t then eb p.2+1 else 0)+wts t r
theorem kb (t:Tr) (a b:List Pq):wts t (a++b)=wts t a+wts t b:=by
 induction a with
 |nil=>simp only [List.nil_append,wts];omega
 |cons p r ih=>simp only [List.cons_append,wts,ih];omega
theorem lM {t:Tr} {a b:List Pq} (h:a.Perm b):wts t a=wts t b:=by
 induction h with
 |nil=>rfl
 |cons x _ ih=>simp only [wts,ih]
 |swap x y l=>simp only [wts];omega
 |trans _ _ h1 h2=>rw [h1,h2]
theorem lN {t:Tr}:∀ {l:List Pq},(∀p∈l,p.1≠t)→wts t l=0
 | [],_=>rfl
 |p::r,h=>by
  simp only [wts]
  rw [if_neg (h p yY),lN fun q m=>h q (z6 _ m)]
theorem qV {t:Tr} {e:Nat}:∀ {l:List Pq},(∀p∈l,Gq e p)→wts t l≤l.length*(e+1)
 | [],_=>by simp [wts]
 |p::r,h=>by
  have h1:=qV (t:=t) fun q m=>h q (z6 _ m)
  have h2:=wJ (h p yY).gf
  simp only [wts,zw,Nat.succ_mul]
  split<;>omega
theorem ka {t:Tr} {e:Nat}:∀ {l:List Pq},Asc l→(∀p∈l,Gq e p)→wts t l≤e+1
 | [],_,_=>by simp [wts]
 |p::r,ha,h=>by
  have h2:=wJ (h p yY).gf
  have h3:=Aa.mp ha
  simp only [wts]
  by_cases z:p.1=t
  · rw [if_pos z,lN fun q m y=>mJ (h3.1 q m) (z.trans y.symm)]
    omega
  · rw [if_neg z]
    have:=ka (t:=t) h3.2 fun q m=>h q (z6 _ m)
    omega
theorem qU (t:Tr) (l:List Pq) (i:Nat):wts t (l.take i)≤wts t l:=by
 have:=kb t (l.take i) (l.drop i)
 rw [A1] at this
 omega
section
variable {P:Program} {w:World} {K:PySem.W.Frag} {mg:Str→Option Value} {base:Heap}
def ky:Sp:=fun vs H Q _=>∃(l:Addr) (ws:List V) (ps:List Pq),vs= [.ref l]∧H l=some (.lst ws)∧TrsAt H ws (ps.map prT)∧ps.length < 64∧(∀t,wts t ps≤8000)∧(∀p∈ps,Gq 8000 p)∧
 ∀(v:V) (H':Hp) (us:List Pq),Same H H'→TrAt H' v (.tup (us.map prT))→Can ps us→us.length≤ps.length→(∀u∈us,Gq (wts u.1 ps) u)→Q v H'
def ik:Sp:=fun vs H Q _=>∃(l:Addr) (ws:List V) (ps:List Pq) (n e:Nat),vs= [.ref l]∧H l=some (.lst ws)∧TrsAt H ws (ps.map prT)∧ps.length≤n∧n < 64∧n*(e+1)≤8000∧(∀p∈ps,Gq e p)∧
 ∀(v:V) (H':Hp) (us:List Pq),Same H H'→TrAt H' v (.tup (us.map prT))→Can ps us→us.length≤ps.length→(∀u∈us,Gq (n*(e+1)) u)→Q v H'
theorem uT {vs:List V} {H:Hp} {Q:VK} {E:XK} (h:ik vs H Q E):ky vs H Q E:=by
 refine hide fun q_ e_=> ?_
 obtain ⟨l,ws,ps,n,e,rfl,hl,hT,hn,n64,hne,hty,k⟩:=h
 subst e_
 have hw:∀t,wts t ps≤n*(e+1):=fun t=>zJ (qV hty) (zT _ hn)
 refine ⟨l,ws,ps,rfl,hl,hT,by omega,fun t=>zJ (hw t) hne,fun p m=>(hty p m).mono ?_,fun v H' us s hv hc hle hg=>k v H' us s hv hc hle fun u m=>(hg u m).mono (hw _)⟩
 have h0:0 < n:=by
  have:=List.length_pos_of_mem m
  omega
 have:1*(e+1)≤n*(e+1):=zT _ h0
 omega
theorem scSumX:aD ["pairs","totals","term","share"] ["pairs"] (ah sSum):=⟨rfl,rfl,rfl,by decide +kernel,rfl,by decide +kernel,by decide +kernel⟩
theorem vn {f fP Z:Addr} {fd fdP:FuncData} (F:Fun K "sum_of" "sum_of" sSum f fd) (B:Blt mg) (GP:FnOk P w K mg base CX0 2 fP fdP ["one","other"] (eZ K)) (kP:PySem.W.keepIn K (.ref fP)=true) (bP:Binds K fdP ["one","other"] []) (mP:mg "plus"=some (.ref fP))
 (mZ:mg "ZERO"=some (.ref Z)) (hZ:∀H:Hp,SqT K H Z [.int 0, .int 1]):FnOk P w K mg base CX0 3 f fd ["pairs"] ky:=by
 refine F.ok scSumX (fun vs H Q E h=> ?_) (fun cdv A outer s H vs Q E hr h=> ?_)
 · refine hide fun q_ e_=> ?_
   obtain ⟨l,ws,ps,rfl,_⟩:=h
   subst e_
   rfl
 refine hide fun q_ e_=> ?_
 obtain ⟨l,ws,ps,rfl,hl,hT,n64,hw8,hty,k⟩:=h
 subst e_
 have hun:=hr.units
 have hu1:=ua hr
 refine ⟨_,af (aJ (i:=1) scSumX.nd rfl (Or.inl rfl) (cG a9))
  (af (gv PassesOwn.never rfl (hU (ar (fq (zq (zM (by decide) _) hun)) rfl B.so PyProof.Rows.boot_sorted (a8 (pv 0) a9))) (cw rfl (aI (ax (i:=2) scSumX.nd rfl (Or.inl rfl)) (aI (ax (i:=3) scSumX.nd rfl (Or.inl rfl)) ci)))
   (aj (aP (PW.pt (jd (lY (pv 1) (by intro _;rfl)) (hJ (aE (jh (zq (zM (by decide) _) hun)) (aw aq (aw bV (pv 1) (cW cq ac) fun _ _=>rfl) ac fun _ _=>rfl) (pv 2) (aA _)))))
    (aj (fk (aB (a8 (pv 2) (a8 (ai GP hr rfl mP kP bP .nil ak (a8 (aw aq (aw bV (pv 1) (cW cq ac) fun _ _=>rfl) ac fun _ _=>rfl) (a8 (pv 3) a9))) a9))) (nY (pv 1) (cW cq ac) jc)))
    (aj (f8 (je PySem.F.plainAttrs_list PySem.F.slot_list_append PySem.F.type_list_append eU (pv 1) (a8 (aB (a8 (pv 2) (a8 (pv 3) a9))) a9)))))))
  (aj (am (cn cp rfl B.tu PyProof.Rows.boot_tuple (a8
   (bZ (NC:= ["total"]) (mp:= [none]) rfl (hU (pv 1)) (fun _ _ _ _ _=>ax (i:=0) (by simp) rfl (Or.inl rfl)) (fun _ _ _ _ _=>vb (aE (r:=rNeP K) (sS hu1) (aw (r:=rIxT K) aq (pv 0) ac fun _ _=>rfl) (ck (v:= .ref Z) rfl mZ rfl) (aA _))) (fun _ _ _ _ _=>pv 0)) a9))))),?_⟩
 have hL:(20000:Nat)≤sizeLine:=by decide +kernel
 refine ⟨by show 0≤sizeLine;decide,fun D nD=> ?_⟩
 have s1:Same H (upd H D (.lst [])):=ae nD
 have tyT:∀t∈ps.map prT,Ty .pr t∧t.depth≤8:=fun t m=>by
  obtain ⟨p,mp,rfl⟩:=zx.mp m
  exact (hty p mp).pr
 refine ⟨_,rfl,l,ws,_,rfl,s1 _ _ hl,hT.mono (Kd.of_same s1),by rw [yW];omega,fun t m=>⟨re (.inr (tyT t m).1),cV (tyT t m).1,by have:=(tyT t m).2;omega⟩,fun t m u mu=>lO 30 (by have:=(tyT t m).2;omega) (tyT t m).1 (tyT u mu).1,fun S ws' us nS pm hT' srt=> ?_⟩
 obtain ⟨qs,rfl,pq⟩:=sP pm rfl
 have s2:=ae (o:= .lst ws') nS
 have nS0:=s1.free nS
 have nDS:D≠S:=fun z=>by rw [←z,aa] at nS;cases nS
 have ul:qs.length=ps.length:=pq.length_eq
 have wl:=hT'.len
 rw [yW] at wl
 have hw8':∀t,wts t qs≤8000:=fun t=>by rw [lM pq];exact hw8 t
 have hty':∀t∈qs,Gq 8000 t:=fun t m=>hty t (pq.mem_iff.mp m)
 have ord:∀(i:Nat) (u:Pq),qs[i]?=some u→∀d∈qs.take i,ltT u.1 d.1=false:=by
  intro i u eu d md
  obtain ⟨j,hj,ej⟩:=zX md
  rw [zm] at hj
  have ej':qs[j]?=some d:=by
   rw [List.getElem_take] at ej
   rw [←ej]
   exact yX _
  exact vG (srt j i _ _ (by omega) (by rw [zF,ej'];rfl) (by rw [zF,eu];rfl))
 refine ⟨S,rfl,⟨ws',SqL.of aa⟩,?_⟩
 refine i6 (xs:=ws') (fun i σ H'=>Same H H'∧H' S=some (.lst ws')∧TrsAt H' ws' (qs.map prT)∧∃(rs:List V) (trs:List Pq) (v2 v3:Option V),σ= [some (.ref l),some (.ref D),v2,v3]∧H' D=some (.lst rs)∧TrsAt H' rs (trs.map prT)∧Run (qs.take i) trs∧(∀t∈trs,Gq (wts t.1 (qs.take i)) t)∧trs.length≤i)
  ⟨s1.trans s2,aa,hT'.mono (Kd.of_same s2),[],[],none,none,rfl,s2 _ _ aa, .nil,by rw [zQ];exact Run.nil,(fun t m=>by cases m),yZ _⟩ (fun i σ H' _ p=>SqL.of p.2.1) ?_ ?_
 · intro i x σ H' ex z_
   refine hide fun q_ e_=> ?_
   obtain ⟨sH,hS,hTS,rs,trs,v2,v3,rfl,hD,hR,hRun,hRt,hRl⟩:=z_
   subst e_
   obtain ⟨u,eu,hu⟩:=hTS.get' ex
   rw [zF] at eu
   refine hide fun q_ e_=> ?_
   obtain ⟨⟨tm,fr⟩,eq,rfl⟩:=zH.mp eu
   subst e_
   have mu:=z7 eq
   have ilt:i < qs.length:=(zd.mp eq).1
   have gu:=hty' _ mu
   refine hide fun q_ e_=> ?_
   obtain ⟨r,xt,xf,rfl,hr',hxt,hxf⟩:=dY hu
   subst e_
   obtain ⟨rf,rfl,hrf⟩:=cH hxf
   have rl:=hR.len
   rw [yW] at rl
   have etk:=be eq
   have ew:∀t,wts t (qs.take (i+1))=wts t (qs.take i)+wts t [(tm,fr)]:=fun t=>by rw [etk,kb]
   have ew1:wts tm [(tm,fr)]=eb fr+1:=by
    simp only [wts]
    rw [if_pos trivial]
   have ile:∀t,wts t (qs.take i)≤8000:=fun t=>zJ (qU t qs i) (hw8' t)
   have gt:Gf (eb fr) fr:=yR gu.gf
   refine ⟨r,_,rfl,SqT.of hr',rfl,_,_,rfl,_,_,rfl,rfl,?_⟩
   have app:(∀p∈trs,ltT p.1 tm=true)→∀p,H' p=none→Same H (upd (upd H' p (.tup [xt, .ref rf])) D (.lst (rs++ [.ref p])))∧(upd (upd H' p (.tup [xt, .ref rf])) D (.lst (rs++ [.ref p]))) S=some (.lst ws')∧TrsAt (upd (upd H' p (.tup [xt, .ref rf])) D (.lst (rs++ [.ref p]))) ws' (qs.map prT)∧
    ∃(rs':List V) (trs':List Pq) (v2' v3':Option V),[some (V.ref l),some (.ref D),some xt,some (.ref rf)]= [some (.ref l),some (.ref D),v2',v3']∧(upd (upd H' p (.tup [xt, .ref rf])) D (.lst (rs++ [.ref p]))) D=some (.lst rs')∧TrsAt (upd (upd H' p (.tup [xt, .ref rf])) D (.lst (rs++ [.ref p]))) rs' (trs'.map prT)∧Run (qs.take (i+1)) trs'∧(∀t∈trs',Gq (wts t.1 (qs.take (i+1))) t)∧trs'.length≤i+1:=by
    intro hlt p np
    have sp:Same H' (upd H' p (.tup [xt, .ref rf])):=ae np
    have hDp:=sp _ _ hD
    have kd:=(Kd.of_same sp).trans (Kd.upd (ys:=rs++ [.ref p]) hDp)
    have hp':(upd (upd H' p (.tup [xt, .ref rf])) D (.lst (rs++ [.ref p]))) p=some (.tup [xt, .ref rf]):=by
     rw [aG (fun z=>by rw [z,hD] at np;cases np)]
     exact aa
    refine ⟨br nD (sH.trans sp),(aG nDS.symm).trans (sp _ _ hS),hTS.mono kd,_,trs++ [(tm,fr)],_,_,rfl,aa,?_,?_,fun t m=> ?_,by rw [z9];simp only [zw,List.length_nil];omega⟩
    · rw [zh]
      exact TrsAt.app (.cons (cN hp' (hxt.mono kd) (hxf.mono kd)) .nil) (hR.mono kd)
    · rw [etk]
      exact hRun.app hlt gu.sh
    · rcases zf.mp m with m|m
      · exact (hRt t m).mono (by rw [ew];omega)
      · rw [ze.mp m]
        exact ⟨gu.ty,gu.dep,gt.mono (by show _≤wts tm _;rw [ew,ew1];omega),gu.sh⟩
   refine ⟨_,rfl,!rs.isEmpty, .inl ⟨rs,SqL.of hD,rfl⟩,?_⟩
   by_cases z:rs= []
   · have zt:trs= []:=List.length_eq_zero_iff.mp (by rw [←rl,z];rfl)
     rw [z]
     refine iteF ?_
     refine iteF ?_
     rw [←z]
     refine ⟨_,rfl, .inl ⟨rfl,_,SqL.of hD⟩,_,rfl,_,rfl,by show 2≤sizeLine;decide,fun p np=> ?_⟩
     refine ⟨D,rs,_,rfl,rfl,ae np _ _ hD,by omega,?_⟩
     exact app (fun p m=>by rw [zt] at m;cases m) p np
   · have z':rs.isEmpty=false:=by simpa using z
     rw [z']
     refine iteT ?_
     have pos:0 < rs.length:=List.length_pos_iff.mpr z
     have zt:trs≠ []:=fun q=>by rw [q] at rl;simp at rl;exact z rl
     obtain ⟨tr0,⟨tm',fr'⟩,rfl⟩:∃l a,trs=l++ [a]:=⟨trs.dropLast,trs.getLast zt,(A4 zt).symm⟩
     have rl':rs.length - 1=tr0.length:=by rw [z9,zO] at rl;omega
     obtain ⟨y,ey,hy⟩:=hR.get (i:=rs.length - 1) (t:=prT (tm',fr')) (by rw [zF,rl',A5 (yZ _),Nat.sub_self];rfl)
     have gl:=hRt (tm',fr') (zp _ yY)
     refine hide fun q_ e_=> ?_
     obtain ⟨ry,yt,yf,rfl,hry,hyt,hyf⟩:=dY hy
     subst e_
     obtain ⟨ryf,rfl,hryf⟩:=cH hyf
     obtain ⟨l1,e1⟩:=rz gu.ty
     obtain ⟨l2,e2⟩:=rz gl.ty
     have pu:=cV gl.ty
     have dd2:=gl.dep
     dsimp only at e1 e2 pu dd2 hxt hyt
     rw [e2] at pu dd2
     unfold Tr.pure at pu
     unfold Tr.depth at dd2
     have eat:=last_at pos ey
     refine ⟨_,rfl,_,rfl,D,rs,-1,_,rfl,rfl,SqL.of hD,eat,ry,_,0,yt,rfl,rfl,SqT.of hry,rfl,_,rfl,l2,l1,by rw [←e2];exact hyt,by rw [←e1];exact hxt, .inl pu,by omega,_,rfl,?_⟩
     cases q:eqTs l2 l1 with
     |true=>
      have em:tm'=tm:=yc gl.ty gu.ty (by rw [e1,e2];unfold eqT;exact q)
      refine iteT ?_
      refine ⟨_,rfl,_,rfl,_,rfl,D,rs,-1,_,rfl,rfl,SqL.of hD,eat,ry,_,1, .ref ryf,rfl,rfl,SqT.of hry,rfl,_,rfl,ryf,rf,_,_,_,_,rfl,SqT.of hryf,SqT.of hrf,⟨gl.gf.pos,gu.gf.pos,gl.gf.top.big (ile _),gl.gf.bot.big (ile _),gu.gf.top.big (yZ _),gu.gf.bot.big (yZ _)⟩,fun rp H2 nrp sp2 hrp=> ?_⟩
      refine ⟨by show 2≤sizeLine;decide,fun p np=> ?_⟩
      have sp3:Same H' (upd H2 p (.tup [xt, .ref rp])):=sp2.trans (ae np)
      have hD3:=sp3 _ _ hD
      refine ⟨_,rfl,_,rfl,D,rs,-1,rs.length - 1,rfl,rfl,hD3,vH pos,?_⟩
      have kd:=(Kd.of_same sp3).trans (Kd.upd (ys:=rs.set (rs.length - 1) (.ref p)) hD3)
      have nDp:p≠D:=fun z=>by rw [z,sp2 _ _ hD] at np;cases np
      have hp':(upd (upd H2 p (.tup [xt, .ref rp])) D (.lst (rs.set (rs.length - 1) (.ref p)))) p=some (.tup [xt, .ref rp]):=by
       rw [aG nDp]
       exact aa
      have hrp':(upd (upd H2 p (.tup [xt, .ref rp])) D (.lst (rs.set (rs.length - 1) (.ref p)))) rp=some (.tup [.int (cK fr' fr).1, .int (cK fr' fr).2]):=by
       rw [aG (fun z=>by rw [z,sp2 _ _ hD] at hrp;cases hrp)]
       exact ae np _ _ hrp
      refine ⟨br nD (sH.trans sp3),(aG nDS.symm).trans (sp3 _ _ hS),hTS.mono kd,_,tr0++ [(tm,cK fr' fr)],_,_,rfl,aa,?_,?_,fun t m=> ?_,?_⟩
      · have:=TrsAt.set (i:=rs.length - 1) (cN (b:=frT (cK fr' fr)) hp' (hxt.mono kd) (aK hrp')) (hR.mono kd)
        rw [rl',zh,zo,List.map_nil,List.set_append_right _ _ (by rw [yW];exact yZ _),yW,Nat.sub_self] at this
        rw [rl',zh]
        exact this
      · rw [etk]
        subst em
        exact hRun.add gu.sh
      · rcases zf.mp m with m|m
        · exact (hRt t (zZ _ m)).mono (by rw [ew];omega)
        · rw [ze.mp m]
          refine ⟨gu.ty,gu.dep,?_,df gl.sh gu.sh⟩
          have:=gl.gf.plus gt
          rw [em] at this
          rw [ew,ew1,←Nat.add_assoc]
          exact this
      · rw [z9,zO] at hRl ⊢
        omega
     |false=>
      have lt1:ltT tm' tm=true:=by
       obtain ⟨d,md,ed⟩:=hRun.key (tm',fr') (zp _ yY)
       have:=ord i _ eq d md
       rw [ed] at this
       exact wA this (by rw [e1,e2];unfold eqT;exact q)
      refine iteF ?_
      refine ⟨_,rfl, .inl ⟨rfl,_,SqL.of hD⟩,_,rfl,_,rfl,by show 2≤sizeLine;decide,fun p np=> ?_⟩
      refine ⟨D,rs,_,rfl,rfl,ae np _ _ hD,by omega,?_⟩
      refine app (fun p m=> ?_) p np
      rcases zf.mp m with m|m
      · exact qC ((Ac.mp hRun.asc).2.2 p m (tm',fr') yY) lt1
      · rw [ze.mp m]
        exact lt1
 · intro σ H' z_
   refine hide fun q_ e_=> ?_
   obtain ⟨sH,hS,hTS,rs,trs,v2,v3,rfl,hD,hR,hRun,hRt,hRl⟩:=z_
   subst e_
   have rl:=hR.len
   rw [yW] at rl
   rw [wl,ul] at hRl
   rw [wl,zL] at hRun hRt
   dsimp only
   refine iR ?_
   refine qk rfl ?_
   refine ⟨_,rfl,D,rfl,⟨rs,SqL.of hD⟩,fun D2 nD2=> ?_⟩
   have nDD:D≠D2:=aQ hD nD2
   refine oH (xs:=rs) (fun i acc H''=>Same H' H''∧H'' D2=some (.lst acc)∧TrsAt H'' acc (((trs.take i).filter fun p=>decide (p.2≠zero)).map prT)) ⟨ae nD2,aa,by rw [zQ];exact .nil⟩ (fun i acc H'' p=>SqL.of (p.1 _ _ hD)) ?_ ?_
   · rintro i x acc H'' hi ex ⟨sH2,hD2,hA⟩
     obtain ⟨t,et,ht⟩:=(hR.mono (Kd.of_same sH2)).get' ex
     rw [zF] at et
     refine hide fun q_ e_=> ?_
     obtain ⟨⟨tm,fr⟩,eq,rfl⟩:=zH.mp et
     subst e_
     refine hide fun q_ e_=> ?_
     obtain ⟨r,xt,xf,rfl,hr',hxt,hxf⟩:=dY ht
     subst e_
     obtain ⟨rf,rfl,hrf⟩:=cH hxf
     have al:=hA.len
     rw [yW] at al
     have al2:=List.length_filter_le (fun p:Pq=>decide (p.2≠zero)) (trs.take i)
     rw [zm] at al2
     refine ⟨_,rfl,r,_,1, .ref rf,rfl,rfl,SqT.of hr',rfl,rf,Z,fr.1,fr.2,0,1,rfl,rfl,SqT.of hrf,hZ _,_,rfl,?_⟩
     rw [vQ]
     have ef:(trs.take (i+1)).filter (fun p=>decide (p.2≠zero))=(trs.take i).filter (fun p=>decide (p.2≠zero))++(if decide (fr≠zero)=true then [(tm,fr)] else []):=by
      rw [be eq,List.filter_append,List.filter_cons]
      rfl
     refine ite2 (fun y=> ?_) (fun y=>CompS.mk hi ⟨sH2,hD2,?_⟩)
     · have kd:=Kd.upd (ys:=acc++ [.ref r]) hD2
       refine ⟨_,rfl,CompN.mk hi (by omega) hD2 ⟨br nD2 sH2,aa,?_⟩⟩
       rw [ef,if_pos y,zh]
       exact TrsAt.app (.cons (ht.mono kd) .nil) (hA.mono kd)
     · rw [ef,if_neg y,A0]
       exact hA
   · rintro acc H'' ⟨sH2,hD2,hA⟩
     rw [rl,zL] at hA
     refine ⟨D2,acc,rfl, .inl ⟨SqL.of hD2,fun p np=> ?_⟩⟩
     have sp:=ae (o:= .tup acc) np
     refine k (.ref p) _ _ (sH.trans (sH2.trans sp)) (aU aa (hA.mono (Kd.of_same sp))) (hRun.fin.to fun t=>rk pq) ?_ fun u m=> ?_
     · exact zJ (List.length_filter_le _ _) hRl
     · have:=hRt u (List.mem_filter.mp m).1
       rw [lM pq] at this
       exact this
end
open PySem L2 Mth Tre Wd Su
theorem uz {as bs us:List Pq} {m n:Nat} (h:Can (as++bs) us) (ha:Asc as) (hb:Asc bs) (ga:∀p∈as,Gq m p) (gb:∀p∈bs,Gq n p) {u:Pq} (mu:u∈us):Gf (m+n+1) u.2:=by
 have e:=eA h.asc mu
 rw [h.eq,dQ] at e
 have su:=(h.sh u mu).1
 by_cases qa:∃a∈as,a.1=u.1
 · obtain ⟨a,ma,ea⟩:=qa
   have e1:=eA ha ma
   rw [ea] at e1
   rw [e1] at e
   by_cases qb:∃b∈bs,b.1=u.1
   · obtain ⟨b,mb,eb⟩:=qb
     have e2:=eA hb mb
     rw [eb] at e2
     rw [e2,←iY (ga a ma).sh (gb b mb).sh] at e
     rw [←iB (df (ga a ma).sh (gb b mb).sh) su e]
     exact (ga a ma).gf.plus (gb b mb).gf
   · rw [dk fun p mp z=>qb ⟨p,mp,z⟩] at e
     have e:rv a.2=rv u.2:=by grind
     rw [←iB (ga a ma).sh su e]
     exact (ga a ma).gf.mono (by omega)
 · rw [dk fun p mp z=>qa ⟨p,mp,z⟩] at e
   by_cases qb:∃b∈bs,b.1=u.1
   · obtain ⟨b,mb,eb⟩:=qb
     have e2:=eA hb mb
     rw [eb] at e2
     rw [e2] at e
     have e:rv b.2=rv u.2:=by grind
     rw [←iB (gb b mb).sh su e]
     exact (gb b mb).gf.mono (by omega)
   · rw [dk fun p mp z=>qb ⟨p,mp,z⟩] at e
     have e:rv u.2=0:=by grind
     exact absurd ((lW su).mp e) (h.sh u mu).2
section
variable {P:Program} {w:World} {K:PySem.W.Frag} {mg:Str→Option Value} {base:Heap}
def iW:Sp:=fun vs H Q _=>∃(v:V) (b:Fr),vs= [v]∧TrAt H v (frT b)∧∀(u:V) (H':Hp),Same H H'→TrAt H' u (frT (negF b))→Q u H'
theorem scCo:aD ["one"] ["one"] (ah iz):=⟨rfl,rfl,rfl,by decide +kernel,rfl,by decide +kernel,by decide +kernel⟩
theorem tD {f:Addr} {fd:FuncData} (F:Fun K "contrary" "contrary" iz f fd):FnOk P w K mg base CX0 1 f fd ["one"] iW:=by
 refine F.ok scCo (fun vs H Q E h=> ?_) (fun cdv A outer s H vs Q E hr h=> ?_)
 · obtain ⟨v,b,rfl,_⟩:=h
   rfl
 obtain ⟨v,b,rfl,hv,k⟩:=h
 refine ⟨_,aj (am (aB (a8 (cW cq (aw aq (pv 0) ac fun _ _=>rfl)) (a8 (aw aq (pv 0) ac fun _ _=>rfl) a9)))),?_⟩
 obtain ⟨r,rfl,hr'⟩:=cH hv
 refine ⟨_,rfl,r,_,0, .int b.1,rfl,rfl,SqT.of hr',rfl,_,rfl,_,rfl,r,_,1, .int b.2,rfl,rfl,SqT.of hr',rfl,by show 2≤sizeLine;decide,fun p np=> ?_⟩
 exact k (.ref p) _ (ae np) (aK aa)
def gY:Sp:=fun vs H Q _=>∃(v u:V) (as:List Pq) (q:Fr) (n e m:Nat),vs= [v,u]∧TrAt H v (.tup (as.map prT))∧TrAt H u (frT q)∧Sh q∧Gf m q∧as.length≤n∧n < 64∧n*(e+m+1)≤8000∧e≤8000∧m≤8000∧Asc as∧(∀p∈as,Gq e p)∧
 ∀(x:V) (H':Hp) (us:List Pq),Same H H'→TrAt H' x (.tup (us.map prT))→Can (as.map (ge q)) us→us.length≤as.length→(∀p∈us,Gq (e+m) p)→Q x H'
theorem scST:aD ["one","many"] ["one","many"] (ah fK):=⟨rfl,rfl,rfl,by decide +kernel,rfl,by decide +kernel,by decide +kernel⟩
theorem qw {f fS fT:Addr} {fd dS dT:FuncData} (F:Fun K "sum_times" "sum_times" fK f fd)
 (gS:FnOk P w K mg base CX0 3 fS dS ["pairs"] ik) (kS:PySem.W.keepIn K (.ref fS)=true) (bS:Binds K dS ["pairs"] []) (mS:mg "sum_of"=some (.ref fS))
 (gT:FnOk P w K mg base CX0 2 fT dT ["one","other"] (de K)) (kT:PySem.W.keepIn K (.ref fT)=true) (bT:Binds K dT ["one","other"] []) (mT:mg "times"=some (.ref fT)):FnOk P w K mg base CX0 4 f fd ["one","many"] gY:=by
 refine F.ok scST (fun vs H Q E h=> ?_) (fun cdv A outer s H vs Q E hr h=> ?_)
 · obtain ⟨v,u,as,q,n,e,m,rfl,_⟩:=h
   rfl
 obtain ⟨v,u,as,q,n,e,m,rfl,hv,hu,sq,gq,an,n64,h8,e8,m8,asc,ga,k⟩:=h
 have hr2:Room 2 _:=hr.mono (by omega)
 refine ⟨_,aj (am (ai gS hr rfl mS kS bS .nil ak (a8 (bZ (NC:= ["term","share","many"]) (mp:= [none,none,some 1]) (g:=gTup K 2 (bQ (aV 0) (bQ (aV 1) gNil))) rfl (cL (pv 0))
  (fun _ _ _ _ _=>cw (n:=2) rfl (aI (ax (i:=0) (show (["term","share","many"]:List Str).Nodup by decide +kernel) rfl (Or.inl rfl) (Or.inr rfl)) (aI (ax (i:=1) (show (["term","share","many"]:List Str).Nodup by decide +kernel) rfl (Or.inl rfl) (Or.inr rfl)) ci))) (fun _ _ _ _ _=>bw)
  (fun _ _ _ _ _=>aB (a8 (pv 0) (a8 (ai gT hr2 rfl mT kT bT .nil ak (a8 (pv 1) (a8 (pv 2) a9))) a9)))) a9))),?_⟩
 have hL20:(20000:Nat)≤sizeLine:=by decide +kernel
 obtain ⟨a,xs,rfl,ha,hxs⟩:=at_t hv
 obtain ⟨ru,rfl,hru⟩:=cH hu
 have xl:=hxs.len
 rw [yW] at xl
 refine fw ?_
 refine km ?_
 refine nw (xs:=xs) (rest:= [some (.ref ru)]) (a:=a) rfl (fun Q q=>⟨_,rfl,q⟩) (SqT.of ha) fun L nL=> ?_
 refine ⟨fun i acc H'=>Same H H'∧H' L=some (.lst acc)∧TrsAt H' acc (((as.take i).map (ge q)).map prT),⟨ae nL,aa,by rw [zQ];exact .nil⟩,fun i acc H' p=>SqT.of (p.1 _ _ ha),?_,?_⟩
 · rintro i z acc H' hi ⟨sH,hL,hA⟩ ez
   obtain ⟨t',et,ht'⟩:=(hxs.mono (Kd.of_same sH)).get' ez
   rw [zF] at et
   obtain ⟨⟨tm,fr⟩,eq,rfl⟩:=zH.mp et
   have g:=ga _ (z7 eq)
   obtain ⟨T,x,y,rfl,hT,hx,hy⟩:=dY ht'
   obtain ⟨rf,rfl,hrf⟩:=cH hy
   have al:=hA.len
   rw [yW,yW,zm] at al
   refine ⟨T,x, .ref rf,rfl,SqT.of hT,?_⟩
   refine ⟨_,rfl,_,rfl,_,rfl,rf,ru,fr.1,fr.2,q.1,q.2,rfl,SqT.of hrf,SqT.of (sH _ _ hru),⟨g.gf.pos,gq.pos,g.gf.top.big e8,g.gf.bot.big e8,gq.top.big m8,gq.bot.big m8⟩,fun rm H6 _ s6 hrm=> ?_⟩
   refine ⟨by show 2≤sizeLine;decide,fun p np=> ?_⟩
   have sp:=ae (o:= .tup [x, .ref rm]) np
   have s7:=s6.trans sp
   have hL7:=s7 _ _ hL
   have kd:=(Kd.of_same s7).trans (Kd.upd (ys:=acc++ [.ref p]) hL7)
   have nLp:p≠L:=fun z=>by rw [z,s6 _ _ hL] at np;cases np
   have nLr:rm≠L:=fun z=>by rw [z,s6 _ _ hL] at hrm;cases hrm
   refine CompN.mk hi (by omega) hL7 ⟨br nL (sH.trans s7),aa,?_⟩
   rw [be eq,zh,zh]
   refine TrsAt.app (.cons ?_ .nil) (hA.mono kd)
   exact cN (a:=tm) (b:=frT (bq fr q)) ((aG nLp).trans aa) (hx.mono kd) (aK ((aG nLr).trans (sp _ _ hrm)))
 · rintro acc H' ⟨sH,hL,hA⟩
   rw [xl,zL] at hA
   have hs:∀p∈as,Sh p.2:=fun p m=>(ga p m).sh
   refine ⟨L,acc,as.map (ge q),n,e+m,rfl,hL,hA,by rw [yW];exact an,n64,h8,fun p mp=> ?_,fun x H6 us s6 hx hc hl _=> ?_⟩
   · obtain ⟨y,my,rfl⟩:=zx.mp mp
     have g:=ga y my
     exact ⟨g.ty,g.dep,g.gf.times gq,cy g.sh sq⟩
   · rw [yW] at hl
     exact k x H6 us (sH.trans s6) hx hc hl (hc.scaled sq asc hs ga gq)
def iV:Sp:=fun vs H Q _=>∃(v u:V) (as bs:List Pq) (m n:Nat),vs= [v,u]∧TrAt H v (.tup (as.map prT))∧TrAt H u (.tup (bs.map prT))∧as.length+bs.length < 64∧m+n+2≤8000∧Asc as∧Asc bs∧(∀p∈as,Gq m p)∧(∀p∈bs,Gq n p)∧
 ∀(x:V) (H':Hp) (us:List Pq),Same H H'→TrAt H' x (.tup (us.map prT))→Can (as++bs) us→us.length≤as.length+bs.length→(∀p∈us,Gq (m+n+1) p)→Q x H'
theorem scSP:aD ["one","other"] ["one","other"] (ah ir):=⟨rfl,rfl,rfl,by decide +kernel,rfl,by decide +kernel,by decide +kernel⟩
theorem sV {f fS:Addr} {fd dS:FuncData} (F:Fun K "sum_plus" "sum_plus" ir f fd) (B:Blt mg)
 (gS:FnOk P w K mg base CX0 3 fS dS ["pairs"] ky) (kS:PySem.W.keepIn K (.ref fS)=true) (bS:Binds K dS ["pairs"] []) (mS:mg "sum_of"=some (.ref fS)):FnOk P w K mg base CX0 4 f fd ["one","other"] iV:=by
 refine F.ok scSP (fun vs H Q E h=> ?_) (fun cdv A outer s H vs Q E hr h=> ?_)
 · obtain ⟨v,u,as,bs,m,n,rfl,_⟩:=h
   rfl
 obtain ⟨v,u,as,bs,m,n,rfl,hv,hu,hl,h8,ca,cb,ga,gb,k⟩:=h
 refine ⟨_,aj (am (ai gS hr rfl mS kS bS .nil ak (a8 (aH xu (cn ii rfl B.li PyProof.Rows.boot_list (a8 (pv 0) a9)) (cn ii rfl B.li PyProof.Rows.boot_list (a8 (pv 1) a9))) a9))),?_⟩
 have hL:(20000:Nat)≤sizeLine:=by decide +kernel
 obtain ⟨a,xs,rfl,ha,hxs⟩:=at_t hv
 obtain ⟨b,ys,rfl,hb,hys⟩:=at_t hu
 have xl:=hxs.len
 have yl:=hys.len
 rw [yW] at xl yl
 refine ⟨_,rfl,a,xs,rfl, .inr (SqT.of ha),fun p np=> ?_⟩
 have s1:=ae (o:= .lst xs) np
 refine ⟨_,rfl,b,ys,rfl, .inr (SqT.of (s1 _ _ hb)),fun q nq=> ?_⟩
 have s2:=ae (o:= .lst ys) nq
 refine ⟨p,q,xs,ys,rfl,rfl,s2 _ _ aa,aa,by omega,fun r nr=> ?_⟩
 have s3:=s1.trans (s2.trans (ae (o:= .lst (xs++ys)) nr))
 refine ⟨r,xs++ys,as++bs,rfl,aa,?_,by rw [z9];exact hl,fun t=> ?_,fun x mx=> ?_,fun x H' us s4 hx hc hle hg=> ?_⟩
 · rw [zh]
   exact TrsAt.app (hys.mono (Kd.of_same s3)) (hxs.mono (Kd.of_same s3))
 · have h1:=ka (t:=t) ca ga
   have h2:=ka (t:=t) cb gb
   rw [kb]
   omega
 · exact (zf.mp mx).elim (fun m=>(ga x m).mono (by omega)) (fun m=>(gb x m).mono (by omega))
 · rw [z9] at hle
   exact k x H' us (s3.trans s4) hx hc hle fun p mp=>⟨(hg p mp).ty,(hg p mp).dep,uz hc ca cb ga gb mp,(hg p mp).sh⟩
end
open PySem L2 Mth Tre Wd Su
theorem _root_.Wd.Gf.b1 {e:Nat} {p:Fr} (h:Gf e p) (he:e≤8000):Big p.1:=h.top.big he
theorem _root_.Wd.Gf.b2 {e:Nat} {p:Fr} (h:Gf e p) (he:e≤8000):Big p.2:=h.bot.big he
section
variable {P:Program} {w:World} {K:PySem.W.Frag} {mg:Str→Option Value} {base:Heap}
def kJ:Sp:=fun vs H Q _=>∃(u v:V) (p q:Fr) (m n:Nat),vs= [u,v]∧TrAt H u (frT p)∧TrAt H v (frT q)∧Gf m p∧Gf n q∧m≤3000∧n≤3000∧Sh p∧Sh q∧
 ∀(x:V) (H':Hp) (r:Fr),Same H H'→TrAt H' x (frT r)→Gf (m+n+1) r→Sh r→Q x H'
theorem scMi:aD ["one","other"] ["one","other"] (ah iy):=⟨rfl,rfl,rfl,by decide +kernel,rfl,by decide +kernel,by decide +kernel⟩
theorem tw {f fP fN:Addr} {fd dP dN:FuncData} (F:Fun K "minus" "minus" iy f fd) (GP:FnOk P w K mg base CX0 2 fP dP ["one","other"] (eZ K)) (kP:PySem.W.keepIn K (.ref fP)=true) (bP:Binds K dP ["one","other"] []) (mP:mg "plus"=some (.ref fP))
 (GN:FnOk P w K mg base CX0 1 fN dN ["one"] iW) (kN:PySem.W.keepIn K (.ref fN)=true) (bN:Binds K dN ["one"] []) (mN:mg "contrary"=some (.ref fN)):FnOk P w K mg base CX0 3 f fd ["one","other"] kJ:=by
 refine F.ok scMi (fun vs H Q E h=> ?_) (fun cdv A outer s H vs Q E hr h=> ?_)
 · obtain ⟨u,v,p,q,m,n,rfl,_⟩:=h
   rfl
 obtain ⟨u,v,p,q,m,n,rfl,hu,hv,gp,gq,m3,n3,sp,sq,k⟩:=h
 have hr1:Room 1 _:=hr.mono (by decide)
 refine ⟨_,aj (am (ai GP hr rfl mP kP bP .nil ak (a8 (pv 0) (a8 (ai GN hr1 rfl mN kN bN .nil ak (a8 (pv 1) a9)) a9)))),?_⟩
 refine ⟨_,rfl,_,rfl,v,q,rfl,hv,fun x H1 s1 hx=> ?_⟩
 obtain ⟨a,rfl,ha⟩:=cH hu
 obtain ⟨b,rfl,hb⟩:=cH hx
 have gn:=ue gq
 refine ⟨a,b,_,_,_,_,rfl,SqT.of (s1 _ _ ha),SqT.of hb,⟨gp.pos,gn.pos,gp.b1 (by omega),gp.b2 (by omega),gn.b1 (by omega),gn.b2 (by omega)⟩,fun r2 H2 hr2 s2 h2=> ?_⟩
 exact k (.ref r2) H2 (cK p (negF q)) (s1.trans s2) (aK h2) (gp.plus gn) (df sp (rX sq))
def ja (C:Addr):Sp:=fun vs H Q E=>∃(u v:V) (p q:Fr) (m n:Nat),vs= [u,v]∧TrAt H u (frT p)∧TrAt H v (frT q)∧Gf m p∧Gf n q∧m≤3000∧n≤3000∧Sh p∧Sh q∧q.1≠0∧
 ∀(x:V) (H':Hp) (r:Fr),Same H H'→TrAt H' x (frT r)→Gf (m+n) r→Sh r→Q x H'
theorem yk:aD ["one","other"] ["one","other"] (ah fQ):=⟨rfl,rfl,rfl,by decide +kernel,rfl,by decide +kernel,by decide +kernel⟩
theorem qy {f fT fF fI C Z:Addr} {fd fdT fdF fdI:FuncData} (F:Fun K "parted" "parted" fQ f fd) (GT:FnOk P w K mg base CX0 2 fT fdT ["one","other"] (de K)) (kT:PySem.W.keepIn K (.ref fT)=true) (bT:Binds K fdT ["one","other"] []) (mT:mg "times"=some (.ref fT))
 (GF:FnOk P w K mg base (CX1 P w) 3 fF fdF ["top","bottom"] (spFr C)) (kF:PySem.W.keepIn K (.ref fF)=true) (bF:Binds K fdF ["top","bottom"] []) (mF:mg "fraction"=some (.ref fF))
 (FI:Fun K "__init__" "WishError.__init__" iK fI fdI) (bI:Binds K fdI ["self","words"] []) (mX:mg "NoShare"=some (.ref C)) (XC:XCls K C fI) (mZ:mg "ZERO"=some (.ref Z)) (hZ:∀H:Hp,SqT K H Z [.int 0, .int 1]) (B:Blt mg):
 FnOk P w K mg base (CX1 P w) 4 f fd ["one","other"] (ja C):=by
 have GI:FnOk P w K mg base CX0 1 fI fdI ["self","words"] (fg K):=lb FI B
 refine F.okX yk (fun vs H Q E h=> ?_) (fun cdv A outer s H vs Q E hr h=> ?_)
 · obtain ⟨u,v,p,q,m,n,rfl,_⟩:=h
   rfl
 obtain ⟨u,v,p,q,m,n,rfl,hu',hv,gp,gq,m3,n3,sp,sq,q0,k⟩:=h
 have hr2:Room 2 _:=hr.mono (by decide)
 have hu:=ua hr
 refine ⟨_,af (aP (aE (xr hu) (pv 1) (ck (v:= .ref Z) rfl mZ rfl) (aA _)) (aj (fj rfl XC (fm XC GI hr2 rfl mX bI ak (a8 aY a9) (by decide) (hlen:=fun vs H Q E ⟨_,_,_,_,e,_⟩=>by rw [e];show 2≤1000;decide)) eO)) au)
  (aj (am (ai GT hr2 rfl mT kT bT .nil ak (a8 (pv 0) (a8 (ai GF hr rfl mF kF bF .nil jf (a8 (aw aq (pv 1) ac fun _ _=>rfl) (a8 (aw aq (pv 1) ac fun _ _=>rfl) a9))) a9))))),?_⟩
 obtain ⟨a,rfl,ha⟩:=cH hu'
 obtain ⟨b,rfl,hb⟩:=cH hv
 refine ⟨_,rfl,b,Z,q.1,q.2,0,1,rfl,rfl,SqT.of hb,hZ _,_,rfl,?_⟩
 rw [decide_eq_false (show¬(q.1=0∧q.2=1) from fun z=>q0 z.1)]
 refine iteF ?_
 refine ⟨_,rfl,_,rfl,b,_,1, .int q.2,rfl,rfl,SqT.of hb,rfl,_,rfl,b,_,0, .int q.1,rfl,rfl,SqT.of hb,rfl,q.2,q.1,rfl,gq.b2 (by omega),gq.b1 (by omega),fun z=>absurd z q0,fun _ r hr'=> ?_⟩
 have y1:=ug (t:=q.2) q0
 have gf:Gf n (fx q.2 q.1,fy q.2 q.1):=⟨by show 0 < fy q.2 q.1;omega,zq (ni q.2 _) gq.bot,zq (ni q.1 _) gq.top⟩
 have sf:Sh (fx q.2 q.1,fy q.2 q.1):=dr q0
 have s1:=ae (o:= .tup [.int (fx q.2 q.1), .int (fy q.2 q.1)]) hr'
 refine ⟨a,r,_,_,_,_,rfl,SqT.of (s1 _ _ ha),SqT.of aa,⟨gp.pos,gf.pos,gp.b1 (by omega),gp.b2 (by omega),gf.b1 (by omega),gf.b2 (by omega)⟩,fun r2 H2 hr2 s2 h2=> ?_⟩
 exact k (.ref r2) H2 (bq p (fx q.2 q.1,fy q.2 q.1)) (s1.trans s2) (aK h2) (gp.times gf) (cy sp sf)
def rR:Sp:=fun vs H Q _=>∃(tp c:Addr) (n:Nat),vs= [.ref tp]∧TapeAt H tp c n∧n+4≤1000000∧∀(v:V) (H':Hp) (p:Fr),TapeAt H' tp c (n+4)→But tp H H'→TrAt H' v (frT p)→Gf 12 p→Sh p→Q v H'
theorem scFw:aD ["_law_tape_here"] ["_law_tape_here"] (ah sFew):=⟨rfl,rfl,rfl,by decide +kernel,rfl,by decide +kernel,by decide +kernel⟩
theorem lt12 {x:Int} (h:x.natAbs≤2000):Lt2 12 x:=zq h (by decide)
theorem pV {x:Int} (h:x.natAbs≤2000):Big x:=(lt12 h).big (by decide)
theorem xB {f fW fF C:Addr} {fd fdW fdF:FuncData} (F:Fun K "_law_few" "_law_few" sFew f fd) (GW:FnOk P w K mg base CX0 2 fW fdW ["_law_tape_here","_law_small","_law_great"] spWh) (kW:PySem.W.keepIn K (.ref fW)=true) (bW:Binds K fdW ["_law_tape_here","_law_small","_law_great"] []) (mW:mg "_law_whole"=some (.ref fW))
 (GF:FnOk P w K mg base (CX1 P w) 3 fF fdF ["top","bottom"] (spFr C)) (kF:PySem.W.keepIn K (.ref fF)=true) (bF:Binds K fdF ["top","bottom"] []) (mF:mg "fraction"=some (.ref fF)):
 FnOk P w K mg base CX0 4 f fd ["_law_tape_here"] rR:=by
 refine F.ok scFw (fun vs H Q E h=> ?_) (fun cdv A outer s H vs Q E hr h=> ?_)
 · obtain ⟨tp,c,n,rfl,_⟩:=h
   rfl
 obtain ⟨tp,c,n,rfl,hT,hn,k⟩:=h
 have hr2:Room 2 _:=hr.mono (by decide)
 refine ⟨_,aj (am (ai GF hr rfl mF kF bF .nil jf (a8 (aH o6 (ai GW hr2 rfl mW kW bW .nil ak (a8 (pv 0) (a8 ac (a8 ac a9)))) ac) (a8 (aH bK ac (ai GW hr2 rfl mW kW bW .nil ak (a8 (pv 0) (a8 ac (a8 ac a9))))) a9)))),?_⟩
 obtain ⟨g1,g2,g3⟩:=t59
 refine ⟨_,rfl,tp,c,9,1000,n,rfl,hT,by omega,by decide,by decide,by omega,fun r H1 r0 r1 hT1 kp1=> ?_⟩
 refine ⟨_,_,rfl,rfl,?_⟩
 refine ⟨_,rfl,tp,c,3,1000,n+2,rfl,hT1,by omega,by decide,by decide,by omega,fun q H2 q0 q1 hT2 kp2=> ?_⟩
 have b0:(0:Int) < 1+q:=by omega
 refine ⟨_,_,rfl,rfl,r - 4,1+q,rfl,pV (by omega),pV (by omega),fun z=>absurd z (by omega),fun _ p np=> ?_⟩
 have hl:=pL (t:=r - 4) b0
 have b2:But tp H H2:=But.of_keep (kp1.trans kp2)
 have np0:=b2.free hT2 np
 have sh:=dr (t:=r - 4) (b:=1+q) (by omega)
 exact k (.ref p) _ (fx (r - 4) (1+q),fy (r - 4) (1+q)) (hT2.wr (hT2.ne np)) (b2.wr np0) (aK aa) ⟨sh.1,lt12 (by omega),lt12 (by omega)⟩ sh
end
end K25
namespace L2
open PySem
def iSeq (K:PySem.W.Frag) (tl:TE):TI:=fun σ H R=>wF K tl σ H R∨iTup K tl σ H R
section
variable {X:Cx} {tg:Expr}
theorem xm {l:Expr} {tl:TE} (hl:PE X l tl):PI X tg l (iSeq X.K tl):=by
 intro pins s σ H R I h
 rcases h with h|h
 · exact hU hl pins s σ H R I h
 · exact cL hl pins s σ H R I h
end
def Sq (H:Hp) (a:Addr) (xs:List V):Prop:=H a=some (.lst xs)∨H a=some (.tup xs)
theorem Sq.same {H H':Hp} {a:Addr} {xs:List V} (h:Sq H a xs) (s:Same H H'):Sq H' a xs:=h.elim (fun q=> .inl (s _ _ q)) (fun q=> .inr (s _ _ q))
theorem vR {K:PySem.W.Frag} {a:Addr} {xs:List V} {g:TG} {tb:TS} {D:Ends} {tl:TE} {σ:St} {H:Hp} (hv:∀Q:VK,Q (.ref a) H→tl σ H Q) (hq:Sq H a xs) (Pv:Nat→St→Hp→Prop) (h0:Pv 0 σ H) (hl:∀i σ H',i≤xs.length→Pv i σ H'→Same H H')
 (hs:∀i x σ H,xs[i]?=some x→Pv i σ H→g x σ H fun σ2 H2=>tb {D with nx:=Pv (i+1),ct:=Pv (i+1),bk:=D.nx} σ2 H2) (hd:∀σ H,Pv xs.length σ H→D.nx σ H):tFor (iSeq K tl) g tb D σ H:=by
 rcases hq with hq|hq
 · exact .inl (hv _ ⟨a,rfl,⟨xs,SqL.of hq⟩,i6 Pv h0 (fun i σ H' hi p=>SqL.of (hl i σ H' hi p _ _ hq)) hs hd⟩)
 · exact .inr (hv _ ⟨a,rfl,⟨xs,SqT.of hq⟩,pM Pv h0 (fun i σ H' hi p=>SqT.of (hl i σ H' hi p _ _ hq)) hs hd⟩)
end L2
namespace Su
open PySem L2 Tre Mth Wd
theorem Can.key {ps us:List Pq} (h:Can ps us) {p:Pq} (m:p∈us):∃q∈ps,q.1=p.1:=by
 refine Classical.byContradiction fun no=> ?_
 have e:=eA h.asc m
 rw [h.eq,dk fun q mq ez=>no ⟨q,mq,ez⟩] at e
 exact (h.sh p m).2 ((lW (h.sh p m).1).mp e.symm)
theorem wp {p q:Fr} (h1:0 < p.2) (h2:0 < q.2):p.1*q.2≤q.1*p.2↔rv p≤rv q:=by
 have a:(0:Rat) < p.2:=by exact_mod_cast h1
 have b:(0:Rat) < q.2:=by exact_mod_cast h2
 have e:(p.1*q.2≤q.1*p.2)↔((p.1:Rat)*q.2≤q.1*p.2):=by
  rw [←Rat.intCast_mul,←Rat.intCast_mul,Rat.intCast_le_intCast]
 rw [e]
 unfold rv
 have ia:(0:Rat) < (p.2:Rat)⁻¹:=Rat.inv_pos.mpr a
 have ib:(0:Rat) < (q.2:Rat)⁻¹:=Rat.inv_pos.mpr b
 rw [Rat.div_def,Rat.div_def]
 have na:(p.2:Rat)*(p.2:Rat)⁻¹=1:=Rat.mul_inv_cancel _ (by grind)
 have nb:(q.2:Rat)*(q.2:Rat)⁻¹=1:=Rat.mul_inv_cancel _ (by grind)
 generalize (p.2:Rat)⁻¹=x at*
 generalize (q.2:Rat)⁻¹=y at*
 generalize (p.2:Rat)=c at*
 generalize (q.2:Rat)=d at*
 generalize (p.1:Rat)=m at*
 generalize (q.1:Rat)=n at*
 constructor
 · intro h
   have h3:=Rat.mul_le_mul_of_nonneg_right h (Rat.le_of_lt ia)
   have h4:=Rat.mul_le_mul_of_nonneg_right h3 (Rat.le_of_lt ib)
   have e1:m*d*x*y=m*x:=by clear h h3 h4 e;grind
   have e2:n*c*x*y=n*y:=by clear h h3 h4 e;grind
   rw [e1,e2] at h4
   exact h4
 · intro h
   have h3:=Rat.mul_le_mul_of_nonneg_right h (Rat.le_of_lt a)
   have h4:=Rat.mul_le_mul_of_nonneg_right h3 (Rat.le_of_lt b)
   have e1:m*x*c*d=m*d:=by clear h h3 h4 e;grind
   have e2:n*y*c*d=n*c:=by clear h h3 h4 e;grind
   rw [e1,e2] at h4
   exact h4
end Su
namespace K25
open PySem L2 Mth Tre Wd Su
theorem e9 {H:Hp} {x:Bool}:TrAt H (.bl x) (.bl x):=by unfold TrAt;rfl
structure Us (s e:Nat) (us:List Pq):Prop where
 asc:Asc us
 len:us.length≤s
 gq:∀u∈us,Gq e u
 ln:∀u∈us,Ln u.1∧u.1.depth≤3
 nz:∀u∈us,u.2≠zero
theorem Us.mono {s e s' e':Nat} {us:List Pq} (h:Us s e us) (h1:s≤s') (h2:e≤e'):Us s' e' us:=⟨h.asc,zJ h.len h1,fun u m=>(h.gq u m).mono h2,h.ln,h.nz⟩
theorem Us.can {s e:Nat} {ps us:List Pq} (h:Can ps us) (hl:us.length≤s) (hg:∀u∈us,Gq e u) (hp:∀p∈ps,Ln p.1∧p.1.depth≤3):Us s e us:=
 ⟨h.asc,hl,hg,fun u m=>by
  obtain ⟨q,mq,eq⟩:=h.key m
  rw [←eq]
  exact hp q mq,fun u m=>(h.sh u m).2⟩
structure PtOk (s e g ew:Nat) (us:List Pq) (f wt:Fr):Prop where
 us:Us s e us
 gf:Gf g f
 sf:Sh f
 gw:Gf ew wt
 sw:Sh wt
theorem PtOk.mono {s e g ew s' e' g' ew':Nat} {us:List Pq} {f wt:Fr} (h:PtOk s e g ew us f wt) (h1:s≤s') (h2:e≤e') (h3:g≤g') (h4:ew≤ew'):PtOk s' e' g' ew' us f wt:=⟨h.us.mono h1 h2,h.gf.mono h3,h.sf,h.gw.mono h4,h.sw⟩
noncomputable def ptT (us:List Pq) (f wt:Fr) (b:Bool):Tr:= .tup [.tup [s_ "most", .tup (us.map prT),frT f], .bl b,frT wt]
section
variable {P:Program} {w:World} {K:PySem.W.Frag} {mg:Str→Option Value} {base:Heap}
def nU:Sp:=fun vs H Q _=>∃(tp c nl:Addr) (k:Nat),vs= [.ref tp, .ref nl]∧TapeAt H tp c k∧k+80≤1000000∧Names H nl∧nl≠tp∧
 ∀(v:V) (us:List Pq) (f wt:Fr) (b:Bool) (H':Hp),TapeAt H' tp c (k+80)→But tp H H'→TrAt H' v (ptT us f wt b)→PtOk 3 40 12 12 us f wt→0 < wt.1→Q v H'
theorem scPt:aD ["_law_tape_here","_law_names_here","_law_pairs","_law_atom","_law_weight"] ["_law_tape_here","_law_names_here"] (ah jQ):=⟨rfl,rfl,rfl,by decide +kernel,rfl,by decide +kernel,by decide +kernel⟩
theorem vt {f fT fS fM fD fW fF C:Addr} {fd dT dS dM dD dW dF:FuncData} (F:Fun K "_law_part" "_law_part" jQ f fd) (B:Blt mg)
 (gT:FnOk P w K mg base CX0 3 fT dT ["_law_tape_here","_law_names_here","_law_deep"] (j9 2)) (kT:PySem.W.keepIn K (.ref fT)=true) (bT:Binds K dT ["_law_tape_here","_law_names_here","_law_deep"] []) (mT:mg "_law_term"=some (.ref fT))
 (gS:FnOk P w K mg base CX0 4 fS dS ["_law_tape_here"] rR) (kS:PySem.W.keepIn K (.ref fS)=true) (bS:Binds K dS ["_law_tape_here"] []) (mS:mg "_law_few"=some (.ref fS))
 (gM:FnOk P w K mg base CX0 3 fM dM ["pairs"] ik) (kM:PySem.W.keepIn K (.ref fM)=true) (bM:Binds K dM ["pairs"] []) (mM:mg "sum_of"=some (.ref fM))
 (gD:FnOk P w K mg base CX0 1 fD dD ["_law_tape_here","_law_many"] eD) (kD:PySem.W.keepIn K (.ref fD)=true) (bD:Binds K dD ["_law_tape_here","_law_many"] []) (mD:mg "_law_draw"=some (.ref fD))
 (gW:FnOk P w K mg base CX0 2 fW dW ["_law_tape_here","_law_small","_law_great"] spWh) (kW:PySem.W.keepIn K (.ref fW)=true) (bW:Binds K dW ["_law_tape_here","_law_small","_law_great"] []) (mW:mg "_law_whole"=some (.ref fW))
 (gF:FnOk P w K mg base (CX1 P w) 3 fF dF ["top","bottom"] (spFr C)) (kF:PySem.W.keepIn K (.ref fF)=true) (bF:Binds K dF ["top","bottom"] []) (mF:mg "fraction"=some (.ref fF)):
 FnOk P w K mg base CX0 5 f fd ["_law_tape_here","_law_names_here"] nU:=by
 refine F.ok scPt (fun vs H Q E h=> ?_) (fun cdv A outer s H vs Q E hr h=> ?_)
 · obtain ⟨tp,c,nl,k,rfl,_⟩:=h
   rfl
 obtain ⟨tp,c,nl,kk,rfl,hT,hn,hN,nt,k⟩:=h
 have hr1:Room 1 _:=hr.mono (by decide)
 have hr2:Room 2 _:=hr.mono (by decide)
 have hr3:Room 3 _:=hr.mono (by decide)
 refine ⟨_,af (l5 (NC:= ["_law_k","_law_names_here","_law_tape_here"]) (mp:= [none,some 1,some 0]) (i:=2) rfl scPt.nd rfl rfl rfl (di rfl B.ra (a8 (ai gD hr1 rfl mD kD bD .nil ak (a8 (pv 0) (a8 ac a9))) a9)) (fun _ _ _ _ _=>ax (i:=0) (show (["_law_k","_law_names_here","_law_tape_here"]:List Str).Nodup by decide +kernel) rfl (Or.inl rfl)) (fun _ _ _ _ _=>bw)
  (fun _ _ _ _ _=>aB (a8 (ai gT hr3 rfl mT kT bT .nil ak (a8 (pv 2) (a8 (pv 1) (a8 ac a9)))) (a8 (ai gS hr rfl mS kS bS .nil ak (a8 (pv 2) a9)) a9))))
  (af (aJ (i:=3) scPt.nd rfl (Or.inl rfl) (aB (a8 aY (a8 (ai gM hr3 rfl mM kM bM .nil ak (a8 (pv 2) a9)) (a8 (ai gS hr rfl mS kS bS .nil ak (a8 (pv 0) a9)) a9)))))
  (af (aJ (i:=4) scPt.nd rfl (Or.inl rfl) (ai gF hr3 rfl mF kF bF .nil jf (a8 (aH bK ac (ai gW hr2 rfl mW kW bW .nil ak (a8 (pv 0) (a8 ac (a8 ac a9))))) (a8 (aH bK ac (ai gD hr1 rfl mD kD bD .nil ak (a8 (pv 0) (a8 ac a9)))) a9))))
  (aj (am (aB (a8 (pv 3) (a8 (bJ bY (ai gD hr1 rfl mD kD bD .nil ak (a8 (pv 0) (a8 ac a9))) ac (aA _)) (a8 (pv 4) a9)))))))),?_⟩
 have hL:(20000:Nat)≤sizeLine:=by decide +kernel
 obtain ⟨g1,g2,g3⟩:=t59
 refine ke rfl ?_
 refine ⟨_,rfl,tp,c,4,kk,rfl,hT,by omega,by decide,cz (by decide) (by decide),fun r H0 r0 r1 hT0 kp0=> ?_⟩
 refine ⟨r,rfl,by omega,by omega,fun D nD=> ?_⟩
 obtain ⟨m,em⟩:∃m:Nat,r.toNat=m:=⟨_,rfl⟩
 have m3:m≤3:=by omega
 have b0:But tp H H0:=But.of_keep kp0
 have nfD:=hT0.ne nD
 have n0D:=b0.free hT0 nD
 rw [em]
 refine fc (n:=m) (fun i acc H'=>TapeAt H' tp c (kk+1+i*20)∧But tp H H'∧H' D=some (.lst acc)∧∃ps:List Pq,TrsAt H' acc (ps.map prT)∧ps.length=i∧∀p∈ps,Gq 12 p∧Ln p.1∧p.1.depth≤3)
  ⟨(hT0.wr nfD).mono (by omega),b0.wr n0D,aa,[], .nil,rfl,fun y m=>by cases m⟩ ?_ ?_
 · rintro i acc H' hi ⟨hT',bt,hD,ps,hTs,hl,hw⟩
   refine ⟨_,rfl,_,rfl,tp,c,nl,1,kk+1+i*20,rfl,hT',by show kk+1+i*20+16≤1000000;omega,hN.but nt bt,nt,by decide,fun v t H1 hT1 b1 hv tyt lnt dt=> ?_⟩
   refine ⟨_,rfl,tp,c,kk+1+i*20+16,rfl,hT1,by omega,fun v2 H2 q hT2 b2 hv2 gq sq=> ?_⟩
   refine ⟨by show 2≤sizeLine;decide,fun p np=> ?_⟩
   have kd1:=b1.kd hT' hT1
   have kd2:=b2.kd hT1 hT2
   have sp:Same H2 (upd H2 p (.tup [v,v2])):=ae np
   have hD2:(upd H2 p (.tup [v,v2])) D=some (.lst acc):=sp _ _ (b2 D _ nfD.1 (b1 D _ nfD.1 hD))
   have tp6:=Kd.upd (ys:=acc++ [.ref p]) hD2
   have nDp:p≠D:=fun z=>by rw [z,b2 D _ nfD.1 (b1 D _ nfD.1 hD)] at np;cases np
   have hp:(upd (upd H2 p (.tup [v,v2])) D (.lst (acc++ [.ref p]))) p=some (.tup [v,v2]):=by
    rw [aG nDp]
    exact aa
   have ks:=(Kd.of_same sp).trans tp6
   have hl2:=hTs.len
   rw [yW] at hl2
   refine CompN.mk hi (by omega) hD2 ⟨?_,((bt.trans (b1.trans b2)).trans (But.of_same sp)).wr n0D,aa,ps++ [(t,q)],by rw [zh];exact TrsAt.app (.cons (cN hp (hv.mono (kd2.trans ks)) (hv2.mono ks)) .nil) (hTs.mono (kd1.trans (kd2.trans ks))),by simp [hl],fun u mu=> ?_⟩
   · exact ((hT2.same sp).wr nfD).mono (by omega)
   · rcases zf.mp mu with mu|mu
     · exact hw u mu
     · rw [ze.mp mu]
       exact ⟨⟨tyt,by dsimp only;omega,gq,sq⟩,lnt,by dsimp only;omega⟩
 · rintro acc H4 ⟨hT4,b4,hD,ps,hTs,hl,hw⟩
   refine aR ?_
   refine ⟨_,rfl,D,acc,ps,3,12,rfl,hD,hTs,by omega,by decide,by decide,(fun p m=>(hw p m).1),fun v H5 us s5 hv hcan hul hgu=> ?_⟩
   refine ⟨_,rfl,tp,c,kk+1+m*20,rfl,hT4.same s5,by omega,fun vf H6 ff hT6 b6 hvf gff sff=> ?_⟩
   have kd6:=b6.kd (hT4.same s5) hT6
   refine ⟨by show 3≤sizeLine;decide,fun pa npa=> ?_⟩
   have s7:=ae (o:= .tup [.str (Str.ofString "most"),v,vf]) npa
   have h7:(upd H6 pa (.tup [.str (Str.ofString "most"),v,vf])) pa=some (.tup [.str (Str.ofString "most"),v,vf]):=aa
   have hT7:=hT6.same s7
   have hat7:TrAt (upd H6 pa (.tup [.str (Str.ofString "most"),v,vf])) (.ref pa) (.tup [s_ "most", .tup (us.map prT),frT ff]):=aU h7 (.cons cU (.cons (hv.mono (kd6.trans (Kd.of_same s7))) (.cons (hvf.mono (Kd.of_same s7)) .nil)))
   have b7:But tp H (upd H6 pa (.tup [.str (Str.ofString "most"),v,vf])):=b4.trans ((But.of_same s5).trans (b6.trans (But.of_same s7)))
   generalize upd H6 pa (.tup [.str (Str.ofString "most"),v,vf])=H7 at hT7 hat7 b7 ⊢
   refine ⟨_,rfl,tp,c,5,1000,_,rfl,hT7,by omega,by decide,by decide,by omega,fun r8 H8 r80 r81 hT8 kp8=> ?_⟩
   refine ⟨_,_,rfl,rfl,?_⟩
   refine ⟨_,rfl,tp,c,3,_,rfl,hT8,by omega,by decide,cz (by decide) (by decide),fun r9 H9 r90 r91 hT9 kp9=> ?_⟩
   refine ⟨_,_,rfl,rfl,1+r8,1+r9,rfl,pV (by omega),pV (by omega),fun z=>absurd z (by omega),fun _ pw npw=> ?_⟩
   have b0':(0:Int) < 1+r9:=by omega
   have hlw:=pL (t:=1+r8) b0'
   have sh:=dr (t:=1+r8) (b:=1+r9) (by omega)
   have b9:But tp H7 H9:=But.of_keep (kp8.trans kp9)
   have kd9:=b9.kd hT7 hT9
   have sA:=ae (o:= .tup [.int (fx (1+r8) (1+r9)), .int (fy (1+r8) (1+r9))]) npw
   have hw0:0 < fx (1+r8) (1+r9):=by
    rw [(oF (t:=1+r8) b0').1]
    exact A7 (by omega) (by omega) (Int.gcd_dvd_left _ _)
   have hwA:TrAt (upd H9 pw (.tup [.int (fx (1+r8) (1+r9)), .int (fy (1+r8) (1+r9))])) (.ref pw) (frT (fx (1+r8) (1+r9),fy (1+r8) (1+r9))):=aK aa
   have hTA:=hT9.same sA
   have hatA:=hat7.mono (kd9.trans (Kd.of_same sA))
   have bA:=b7.trans (b9.trans (But.of_same sA))
   generalize upd H9 pw (.tup [.int (fx (1+r8) (1+r9)), .int (fy (1+r8) (1+r9))])=HA at hwA hTA hatA bA ⊢
   refine ⟨_,rfl,_,rfl,tp,c,2,_,rfl,hTA,by omega,by decide,cz (by decide) (by decide),fun rB HB _ _ hTB kpB=> ?_⟩
   have bB:But tp HA HB:=But.of_keep kpB
   have kdB:=bB.kd hTA hTB
   refine ⟨rfl,_,rfl,by show 3≤sizeLine;decide,fun p np=> ?_⟩
   have sp:=ae (o:= .tup [.ref pa, .bl (decide (V.int rB=V.int 1)), .ref pw]) np
   have bb:=bA.trans bB
   refine k (.ref p) us ff (fx (1+r8) (1+r9),fy (1+r8) (1+r9)) (decide (V.int rB=V.int 1)) _ ((hTB.same sp).mono (by omega)) (bb.trans (But.of_same sp)) (aU aa (.cons (hatA.mono (kdB.trans (Kd.of_same sp))) (.cons e9 (.cons (hwA.mono (kdB.trans (Kd.of_same sp))) .nil)))) ⟨Us.can hcan (by omega) (fun u mu=>(hgu u mu).mono (by decide)) (fun p m=>(hw p m).2),gff,sff,⟨sh.1,lt12 (by omega),lt12 (by omega)⟩,sh⟩ hw0
theorem gf_m1:Gf 2 m1:=⟨by decide,by show (1:Nat) < 2^2;decide,by show (1:Nat) < 2^2;decide⟩
noncomputable def sgF (b:Bool) (wt:Fr):Fr:=if b then wt else bq wt m1
theorem yn:rv m1= -1:=by
 show ((-1:Int):Rat) / ((1:Int):Rat)= -1
 grind
theorem io {b:Bool} {wt:Fr} (h:Sh wt):Sh (sgF b wt):=by
 cases b
 · exact cy h oZ
 · exact h
theorem rZ {b:Bool} {wt:Fr} (h:Sh wt):rv (sgF b wt)=if b then rv wt else -rv wt:=by
 cases b
 · show rv (bq wt m1)= -rv wt
   rw [hG h oZ,yn]
   grind
 · rfl
def gQ:Sp:=fun vs H Q _=>∃(v:V) (us:List Pq) (f wt:Fr) (b:Bool) (s e g ew:Nat),vs= [v]∧TrAt H v (ptT us f wt b)∧PtOk s e g ew us f wt∧ew≤3000∧∀(x:V) (H':Hp),Same H H'→TrAt H' x (frT (sgF b wt))→Gf (ew+2) (sgF b wt)→Q x H'
theorem scSg:aD ["_law_part_here"] ["_law_part_here"] (ah fJ):=⟨rfl,rfl,rfl,by decide +kernel,rfl,by decide +kernel,by decide +kernel⟩
theorem qx {f fT:Addr} {fd dT:FuncData} (F:Fun K "_law_signed" "_law_signed" fJ f fd) (GT:FnOk P w K mg base CX0 2 fT dT ["one","other"] (de K)) (kT:PySem.W.keepIn K (.ref fT)=true) (bT:Binds K dT ["one","other"] []) (mT:mg "times"=some (.ref fT)):FnOk P w K mg base CX0 3 f fd ["_law_part_here"] gQ:=by
 refine F.ok scSg (fun vs H Q E h=> ?_) (fun cdv A outer s H vs Q E hr h=> ?_)
 · obtain ⟨v,us,ff,wt,b,s,e,g,ew,rfl,_⟩:=h
   rfl
 obtain ⟨v,us,ff,wt,b,s_,e,g,ew,rfl,hv,ho,hew,k⟩:=h
 refine ⟨_,af (aP (bf (aw aq (pv 0) ac fun _ _=>rfl)) (aj (am (aw aq (pv 0) ac fun _ _=>rfl))) au)
  (aj (am (ai GT hr rfl mT kT bT .nil ak (a8 (aw aq (pv 0) ac fun _ _=>rfl) (a8 (aB (a8 (cW cq ac) (a8 ac a9))) a9))))),?_⟩
 obtain ⟨r,vs,rfl,h1,h2⟩:=at_t hv
 obtain ⟨x0,rr,rfl,hx0,h3⟩:=h2.inv
 obtain ⟨x1,rr2,rfl,hx1,h4⟩:=h3.inv
 obtain ⟨x2,rr3,rfl,hx2,h5⟩:=h4.inv
 unfold TrsAt at h5
 subst h5
 unfold TrAt at hx1
 subst hx1
 obtain ⟨rw',rfl,hrw⟩:=cH hx2
 refine ⟨_,rfl,r,_,1, .bl b,rfl,rfl,SqT.of h1,rfl,b,rfl,?_⟩
 cases b with
 |true=>
  refine iteT ⟨_,rfl,r,_,2, .ref rw',rfl,rfl,SqT.of h1,rfl,?_⟩
  exact k _ H (Same.refl H) hx2 (ho.gw.mono (by omega))
 |false=>
  refine iteF ?_
  refine ⟨_,rfl,r,_,2, .ref rw',rfl,rfl,SqT.of h1,rfl,_,rfl,by show 2≤sizeLine;decide,fun p np=> ?_⟩
  have s1:=ae (o:= .tup [.int (-1), .int 1]) np
  refine ⟨rw',p,_,_,_,_,rfl,SqT.of (s1 _ _ hrw),SqT.of aa,⟨ho.gw.pos,by decide,ho.gw.b1 (by omega),ho.gw.b2 (by omega),gf_m1.b1 (by decide),gf_m1.b2 (by decide)⟩,fun r2 H2 hr2 s2 h2'=> ?_⟩
  exact k (.ref r2) H2 (s1.trans s2) (aK h2') (ho.gw.times gf_m1)
end
open PySem L2 Mth Tre Wd Dj Su
section
variable {X:Cx}
def rLtR:R2:=fun x y H Q=>∃t u,TrAt H x t∧TrAt H y u∧(t.pure∨u.pure)∧Cm t u∧t.depth≤40∧Q (.bl (ltT t u)) H
theorem xp (hu:X.A.units+50 < cLine):OpR X (compareOp .Lt) rLtR:=by
 intro pins s σ H x y v u Q I rx ry h
 obtain ⟨t,r,h1,h2,hp,hc,hd,q⟩:=h
 exact kg I 40 hd hp hc h1 h2 rx ry (by omega) X.prog X.w X.xe _ ⟨.bl (ltT t r),H,I,rfl,q⟩
end
theorem xK (K:PySem.W.Frag):PySem.W.kitOne K (.type "int") (.type "int")=some true:=by kernel_rfl
theorem xL (K:PySem.W.Frag):PySem.W.kitOne K (.type "int") (.type "bool")=some false:=by kernel_rfl
section
variable {P:Program} {w:World} {K:PySem.W.Frag} {mg:Str→Option Value} {base:Heap}
def spIw:Sp:=fun vs H Q _=>∃i:Int,vs= [.int i]∧Q (.bl true) H
theorem scIw:aD ["thing"] ["thing"] (ah sIw):=⟨rfl,rfl,rfl,by decide +kernel,rfl,by decide +kernel,by decide +kernel⟩
theorem yH {f:Addr} {fd:FuncData} (F:Fun K "is_whole" "is_whole" sIw f fd) (B:Blt mg):FnOk P w K mg base CX0 1 f fd ["thing"] spIw:=by
 refine F.ok scIw (fun vs H Q E h=> ?_) (fun cdv A outer s H vs Q E hr h=> ?_)
 · obtain ⟨i,rfl,_⟩:=h
   rfl
 obtain ⟨i,rfl,k⟩:=h
 refine ⟨_,aj (am (c9 (ar (r:=rIsi K) aX rfl B.isi ao (a8 (pv 0) (a8 (bh (v:= .ty "int") rfl B.it PyProof.Rows.boot_int rfl) a9))) (cF (iE (ar (r:=rIsi K) aX rfl B.isi ao (a8 (pv 0) (a8 (bh (v:= .ty "bool") rfl B.bo PyProof.Rows.boot_bool rfl) a9))))))),?_⟩
 refine ⟨_,rfl, .int i, .ty "int", .type "int",true,rfl, .of (.int i), .inl ⟨rfl,xK K⟩,_,rfl,?_⟩
 refine iteT ?_
 exact ⟨_,rfl, .int i, .ty "bool", .type "int",false,rfl, .of (.int i), .inl ⟨rfl,xL K⟩,_,rfl,k⟩
def spFq:Sp:=fun vs H Q _=>∃(v:V) (p:Fr),vs= [v]∧TrAt H v (frT p)∧Gf 1000 p∧Sh p∧∀H',Same H H'→Q (.bl true) H'
theorem scFq:aD ["thing"] ["thing"] (ah sFrQ):=⟨rfl,rfl,rfl,by decide +kernel,rfl,by decide +kernel,by decide +kernel⟩
theorem yT {x y:Int} (h:fu x y):fx x y=x∧fy x y=y:=by
 have h0:¬y < 0:=by have:=h.1;omega
 have e:dv x y=1:=by
  unfold dv
  rw [if_neg h0,h.2]
  rfl
 unfold fx fy
 rw [e]
 exact ⟨Int.fdiv_one x,Int.fdiv_one y⟩
theorem yL {f fO fW fF C:Addr} {fd dO dW dF:FuncData} (F:Fun K "is_fraction" "is_fraction" sFrQ f fd)
 (gO:FnOk P w K mg base CX0 1 fO dO ["thing","count"] spTo) (kO:PySem.W.keepIn K (.ref fO)=true) (bO:Binds K dO ["thing","count"] []) (mO:mg "is_tuple_of"=some (.ref fO))
 (gW:FnOk P w K mg base CX0 1 fW dW ["thing"] spIw) (kW:PySem.W.keepIn K (.ref fW)=true) (bW:Binds K dW ["thing"] []) (mW:mg "is_whole"=some (.ref fW))
 (gF:FnOk P w K mg base (CX1 P w) 3 fF dF ["top","bottom"] (spFr C)) (kF:PySem.W.keepIn K (.ref fF)=true) (bF:Binds K dF ["top","bottom"] []) (mF:mg "fraction"=some (.ref fF)):FnOk P w K mg base CX0 4 f fd ["thing"] spFq:=by
 refine F.ok scFq (fun vs H Q E h=> ?_) (fun cdv A outer s H vs Q E hr h=> ?_)
 · obtain ⟨v,p,rfl,_⟩:=h
   rfl
 obtain ⟨v,⟨x,y⟩,rfl,hv,hg,hs,k⟩:=h
 have hr1:Room 1 _:=hr.mono (by decide)
 have hun:=hr.units
 have hu50:_+50 < cLine:=zq (zM (by decide) _) hun
 refine ⟨_,af (aP (PW.pt (cP (cj (bf (ai gO hr1 rfl mO kO bO .nil ak (a8 (pv 0) (a8 ac a9))))) (cP (cj (bf (ai gW hr1 rfl mW kW bW .nil ak (a8 (aw aq (pv 0) ac fun _ _=>rfl) a9)))) (cR (cj (bf (ai gW hr1 rfl mW kW bW .nil ak (a8 (aw aq (pv 0) ac fun _ _=>rfl) a9)))))))) (aj (am cQ)) au)
  (aj (am (c9 (bJ yw (aw aq (pv 0) ac fun _ _=>rfl) ac (aA _)) (cF (bJ (jh hu50) (ai gF hr rfl mF kF bF .nil jf (a8 (aw aq (pv 0) ac fun _ _=>rfl) (a8 (aw aq (pv 0) ac fun _ _=>rfl) a9))) (pv 0) (aA _)))))),?_⟩
 obtain ⟨r,xs,rfl,g,hxs⟩:=at_t hv
 obtain ⟨z1,l1,rfl,q1,hr1'⟩:=hxs.inv
 obtain ⟨z2,l2,rfl,q2,hr2'⟩:=hr1'.inv
 unfold TrsAt at hr2'
 subst hr2'
 unfold TrAt at q1 q2
 subst q1 q2
 have y0:0 < y:=hg.1
 have ex:∀b∈ [x,y],Big b:=fun b m=>by
  have h8:(2:Nat)^1000 < 2^8000:=Nat.pow_lt_pow_right (by decide) (by decide)
  simp only [zc,zv,or_false] at m
  unfold Big
  rcases m with rfl|rfl
  · exact Nat.lt_trans hg.top h8
  · exact Nat.lt_trans hg.bot h8
 have bx:=ex x (by simp)
 have by':=ex y (by simp)
 obtain ⟨e1,e2⟩:=yT hs
 refine ⟨_,rfl,r,_,2,rfl,g,_,rfl,iteF ?_⟩
 refine ⟨_,rfl,r,_,0,_,rfl,rfl,SqT.of g,rfl,x,rfl,_,rfl,iteF ?_⟩
 refine ⟨_,rfl,r,_,1,_,rfl,rfl,SqT.of g,rfl,y,rfl,_,rfl,iteF ?_⟩
 refine ⟨_,rfl,r,_,1,_,rfl,rfl,SqT.of g,rfl,_,_,rfl,rfl,_,rfl,?_⟩
 refine if_t (decide_eq_true (by omega)) ?_
 refine ⟨_,rfl,r,_,0,_,rfl,rfl,SqT.of g,rfl,_,rfl,r,_,1,_,rfl,rfl,SqT.of g,rfl,x,y,rfl,bx,by',fun z=>absurd z (by omega),fun _ p np=> ?_⟩
 have sp:=ae (o:= .tup [.int (fx x y), .int (fy x y)]) np
 refine ⟨_,rfl,[.int (fx x y), .int (fy x y)],[.int x, .int y],aK aa,hv.mono (Kd.of_same sp), .inl (by simp [Trs.pure,Tr.pure]),by simp [Trs.depth,Tr.depth],?_⟩
 rw [e1,e2,eqTs_refl]
 rw [e1,e2] at sp
 exact k _ sp
end
end K25
namespace SlW
open PySem PySem.Spec PyProof.Rows SeqAt L2 Tre
section
variable {prog:Program} {w:World} {A:Around} {E:Value→Shared→Prop} {s:Shared}
theorem kZ {H:Hp} {p:Addr} {o:HO} (h:H p=none):Same H (upd H p o):=fun b u e=>by
 rw [aG (aQ e h)]
 exact e
theorem qO {t sl:Addr} {xs:Array Value} {vl vu:Value} {lo hi:Option Int} {Q:Value→Shared→Prop} (ht:IsTup s.heap t xs) (hs:s.heap.IsSliceOf sl vl vu .none) (pl:IsPart vl lo) (pu:IsPart vu hi)
 (h1:HT.sIx xs.size 0 lo=0) (h2:HT.sIx xs.size xs.size hi=xs.size) (h:Q (.ref t) s):wpAny (model prog w) A (getItem (.ref t) (.ref sl)) Q E s:=by
 obtain ⟨os,hos,hcs,hds⟩:=id hs
 have hT:s.TypeIs (.ref sl) "slice":=⟨os,hos,hcs⟩
 unfold getItem
 try with_reducible refine wpAny_holding ?_
 first|refine wpAny_bind (wpAny_pure ?_)|skip
 refine wpAny_bind (wpAny_sequenceKey ht.typeIs (by decide) ?_)
 refine wpAny_bind (wpAny_callSpecial?_slot (name:=Str.ofString "__getitem__") ht.typeIs slot_tuple_getitem (wpAny_call_entry slot_tuple_getitem ht.typeIs entry_tuple_getitem ?_ (args_tuple_getitem _ _)))
 show wpAny _ _ (Builtin.Tuple.tupleItemsOf (.ref t) >>=_) _ _ s
 refine wpAny_bind (tupleItemsOf_ ht ?_)
 refine wpAny_bind (wpAny_typeOf hT ?_)
 rw [if_pos (by decide)]
 refine wpAny_bind (HT.sliceApplied_gen hs pl pu ?_)
 have q:(((HT.sIx xs.size 0 lo:Nat):Int)==0&& (1:Int)==1&& (HT.sIx xs.size xs.size hi - HT.sIx xs.size 0 lo)==xs.size)=true:=by
  rw [h1,h2]
  simp
 show wpAny _ _ (if (((HT.sIx xs.size 0 lo:Nat):Int)==0&& (1:Int)==1&& (HT.sIx xs.size xs.size hi - HT.sIx xs.size 0 lo)==xs.size)=true then _ else _) _ _ s
 rw [if_pos q]
 refine wpAny_bind (m:=Builtin.Tuple.tupleIsExact (.ref t)) (wpAny_bind (wpAny_typeOf ht.typeIs (wpAny_pure ?_)))
 rw [if_pos (by decide)]
 first
  |exact wpAny_pure ⟨_,rfl,wpAny_pure h⟩
  |exact wpAny_bind (wpAny_pure ⟨_,rfl,wpAny_pure h⟩)
  |exact wpAny_bind (wpAny_rule (wpAny_pure ⟨_,rfl,wpAny_pure h⟩))
  |(trace_state;exact wpAny_pure (wpAny_pure ⟨_,rfl,wpAny_pure h⟩))
end
section
variable {X:Cx}
def rSlA:V→Option Int→Option Int→Hp→VK→Prop:=fun x lo hi H Q=>∃a xs,x= .ref a∧H a=some (.tup xs)∧∀r H',Same H H'→H' r=some (.tup (cutV xs lo hi))→Q (.ref r) H'
theorem sl_A:SlR X rSlA:=by
 intro pins s σ H x v vl vu lo hi sl Q I rx hs pl pu h
 obtain ⟨a,xs,rfl,hx,q⟩:=h
 by_cases z:HT.sIx xs.length 0 lo=0∧HT.sIx xs.length xs.length hi=xs.length
 · cases rx
   obtain ⟨its,r,ht,hz⟩:=I.tuple (SqT.of hx)
   have hlen:its.toArray.size=xs.length:=by rw [z5];exact r.length.symm
   refine ⟨"tuple",_,slot_tuple_getitem.lookup,ht.typeIs,?_⟩
   refine qO ht hs pl pu (by rw [hlen];exact z.1) (by rw [hlen];exact z.2) ⟨.ref a,H,I,rfl,q a H (Same.refl H) ?_⟩
   have e:cutV xs lo hi=xs:=by
    unfold cutV
    rw [z.1,z.2]
    simp
   rw [e]
   exact hx
 · exact x9 pins s σ H _ v vl vu lo hi sl Q I rx hs pl pu ⟨a,xs,rfl,SqT.of hx,z,fun p np=>q p _ (kZ np) aa⟩
end
end SlW
namespace Zp
open PySem
section
variable {prog:Program} {w:World} {A:Around} {E:Value→Shared→Prop} {s:Shared} {k:Src} {z TI TO i1 i2 l1 l2:Addr} {j:Nat} {xs ys:Array Value} {x y a b:Value}
theorem uM {Q:Fin→Shared→Prop} (hh:A.handled=none) (D:ZipApart z TI TO i1 i2 l1 l2) (hz:IsZip s.heap z TI TO .none) (hI:IsPair s.heap TI (.ref i1) (.ref i2)) (hO:IsPair s.heap TO a b)
 (t1:k.It s.heap i1 l1 j) (t2:k.It s.heap i2 l2 j) (q1:k.Sq s.heap l1 xs) (q2:k.Sq s.heap l2 ys) (ex:xs[j]?=some x) (ends:ys[j]?=none)
 (q:∀h' e,(∀c o,c≠z→c≠TO→c≠i1→c≠i2→s.heap.get? c=some o→h'.get? c=some o)→(∃o,h'.get? e=some o∧o.cls= .type "StopIteration")→E (.ref e) {s with heap:=h'}):
 wpAny (model prog w) A (Builtin.«zip.__next__» ⟨[.ref z],[]⟩) Q E s:=by
 show wpAny _ _ (do let u←field (.ref z) 2;_) _ _ _
 refine wpAny_bind (wpAny_field hz rfl (x:= .bool false) rfl ?_)
 show wpAny _ _ (do let u←field (.ref z) 3;_) _ _ _
 refine wpAny_bind (wpAny_field hz rfl (x:= .ref TI) rfl (wpAny_bind (wpAny_seqItems hI rfl ?_)))
 show wpAny _ _ (do let u←Builtin.SmallTypes.ownedTupleIsFree (.ref z);_) _ _ _
 refine wpAny_bind ?_
 rw [Builtin.SmallTypes.ownedTupleIsFree]
 refine wpAny_bind (wpAny_field hz rfl (x:= .none) rfl (wpAny_pure ?_))
 simp only [if_true]
 refine wpAny_bind (wpAny_rule (wpAny_bind (wpAny_field hz rfl (x:= .ref TO) rfl (wpAny_bind (wpAny_setField_rec hz (by simp) fun g1 y1 s1=> ?_)))))
 have y1:IsZip g1 z TI TO .ellipsis:=y1
 refine wpAny_bind ?_
 simp only [List.forIn_cons,List.forIn_nil,List.zipIdx_nil,List.zipIdx_cons]
 refine wpAny_bind (wpAny_bind (wpAny_onRaise ?_))
 show wpAny _ _ (do let u←Builtin.SmallTypes.nextOf (.ref i1);_) _ _ _
 refine wpAny_bind (lg (s:= {s with heap:=g1}) (eV t1 fun o e=>s1.extBut _ o D.i1z e) (lU q1 fun o e=>s1.extBut _ o D.l1z e) ex fun g2 u1 s2=>wpAny_pure ?_)
 have o2:IsPair g2 TO a b:=s2.extBut _ _ D.TOi1 (s1.extBut _ _ D.TOz hO)
 refine wpAny_bind (wpAny_seqItems o2 rfl (wpAny_bind (wpAny_updateSeq_pair (s:= {s with heap:=g2}) o2 fun g3 o3 s3=> ?_)))
 have o3:IsPair g3 TO x b:=o3
 refine wpAny_bind (wpAny_letGo (wpAny_pure (wpAny_bind (wpAny_bind (wpAny_onRaise ?_)))))
 show wpAny _ _ (do let u←Builtin.SmallTypes.nextOf (.ref i2);_) _ _ _
 refine wpAny_bind (tG (s:= {s with heap:=g3}) hh (eV t2 fun o e=>s3.extBut _ o D.TOi2.symm (s2.extBut _ o D.i12.symm (s1.extBut _ o D.i2z e))) (lU q2 fun o e=>s3.extBut _ o D.l2TO (s2.extBut _ o D.l2i1 (s1.extBut _ o D.l2z e))) ends fun g4 e s4 he=> ?_)
 obtain ⟨oe,e1,e2⟩:=he
 have y4:IsZip g4 z TI TO .ellipsis:=s4 _ _ D.i2z.symm (s3.extBut _ _ D.TOz.symm (s2.extBut _ _ D.i1z.symm y1))
 have ne:e≠z:=fun n=>by subst n;rw [y4] at e1;cases e1;simp at e2
 exact wpAny_setField_rec y4 (by simp) fun g5 _ s5=>q g5 e (fun c o c1 c2 c3 c4 n=>s5.extBut _ _ c1 (s4 _ _ c4 (s3.extBut _ _ c2 (s2.extBut _ _ c3 (s1.extBut _ _ c1 n))))) ⟨oe,s5.extBut _ _ ne e1,e2⟩
theorem uO {Q:Option Value→Shared→Prop} (hh:A.handled=none) (D:ZipApart z TI TO i1 i2 l1 l2) (hz:IsZip s.heap z TI TO .none) (hI:IsPair s.heap TI (.ref i1) (.ref i2)) (hO:IsPair s.heap TO a b)
 (t1:k.It s.heap i1 l1 j) (t2:k.It s.heap i2 l2 j) (q1:k.Sq s.heap l1 xs) (q2:k.Sq s.heap l2 ys) (ex:xs[j]?=some x) (ends:ys[j]?=none)
 (q:∀h',(∀c o,c≠z→c≠TO→c≠i1→c≠i2→s.heap.get? c=some o→h'.get? c=some o)→Q none {s with heap:=h'}):wpAny (model prog w) A (pyNext (.ref z)) Q E s:=by
 have ty:s.TypeIs (.ref z) "zip":=⟨_,hz,rfl⟩
 rw [pyNext]
 refine wpAny_bind (wpAny_attempt (wpAny_callSpecial?_slot (name:=Str.ofString "__next__") ty F.slot_zip_next (wpAny_call_entry F.slot_zip_next ty F.entry_zip_next (uM hh D hz hI hO t1 t2 q1 q2 ex ends fun h' e up he=> ?_) (F.args_zip_next_1 _))))
 obtain ⟨o,e1,e2⟩:=he
 exact wpAny_bind (wpAny_isInstance (T:="StopIteration") (b:=true) ⟨o,e1,e2⟩ isSubtype_stop (wpAny_pure (q _ up)))
end
end Zp
namespace L2
open PySem PySem.Spec PyProof.Rows Zp
def Itz2 (k:Src) (K:PySem.W.Frag) (a b:Addr):It:=⟨(Itz k K a b).go,(Itz k K a b).yld,fun i H=>(Itz k K a b).stop i H∨∃xs ys,Sqk k K H a xs∧Sqk k K H b ys∧i < xs.length∧ys.length≤i⟩
theorem qf {P:Program} {w:World} {K:PySem.W.Frag} {es:List Expr} {kk:Nat} {pos:Pos} {k:Src} (a b z TI TO i1 i2:Addr) (hd: [z,TI,TO,i1,i2].Nodup):
 Turn P w K (.Tuple es kk pos) (Itz2 k K a b) [z,TI,TO,i1,i2] z (fun i h=>IsZip h z TI TO .none∧IsPair h TI (.ref i1) (.ref i2)∧(∃u v,IsPair h TO u v)∧k.It h i1 a i∧k.It h i2 b i∧a∉ [z,TI,TO,i1,i2]∧b∉ [z,TI,TO,i1,i2]) where
 mem:=(dj (P:=P) (w:=w) (es:=es) (kk:=kk) (pos:=pos) (k:=k) (K:=K) a b z TI TO i1 i2 hd).mem
 obj:=(dj (P:=P) (w:=w) (es:=es) (kk:=kk) (pos:=pos) (k:=k) (K:=K) a b z TI TO i1 i2 hd).obj
 keep:=(dj (P:=P) (w:=w) (es:=es) (kk:=kk) (pos:=pos) (k:=k) (K:=K) a b z TI TO i1 i2 hd).keep
 item:=(dj (P:=P) (w:=w) (es:=es) (kk:=kk) (pos:=pos) (k:=k) (K:=K) a b z TI TO i1 i2 hd).item
 self:=(dj (P:=P) (w:=w) (es:=es) (kk:=kk) (pos:=pos) (k:=k) (K:=K) a b z TI TO i1 i2 hd).self
 done:=by
  intro X hP hw hK hc i pins s σ H E I hf st hg
  rcases hg with hg|hg
  · exact (dj (P:=P) (w:=w) (es:=es) (kk:=kk) (pos:=pos) (k:=k) (K:=K) a b z TI TO i1 i2 hd).done X hP hw hK hc i pins s σ H E I hf st hg
  · obtain ⟨h1,h2,⟨u0,v0,h3⟩,h4,h5,h6,h7⟩:=st
    subst hP hw hK
    obtain ⟨xs,ys,g1,g2,g3,g4⟩:=hg
    obtain ⟨as,r1,p1,z1⟩:=I.sqk g1
    obtain ⟨bs,r2,p2,z2⟩:=I.sqk g2
    have hl:=r1.length
    have hl2:=r2.length
    simp only [zU,zc,zv,or_false,not_or,List.nodup_nil,and_true,not_false_eq_true] at hd h6 h7
    obtain ⟨⟨d1,d2,d3,d4⟩,⟨d5,d6,d7⟩,⟨d8,d9⟩,d10⟩:=hd
    have D:ZipApart z TI TO i1 i2 a b:=⟨Ne.symm d1,Ne.symm d2,Ne.symm d3,Ne.symm d4,d5,d6,d7,d8,d9,d10,h6.1,h6.2.2.1,h6.2.2.2.1,h6.2.2.2.2,h7.1,h7.2.2.1,h7.2.2.2.1,h7.2.2.2.2⟩
    have hi:i < as.length:=by omega
    refine uO (I.ok.hd hc) D h1 h2 h3 h4 h5 p1 p2 (x:=as[i]) (by simp [hi]) (by simp;omega) fun h' up=>⟨rfl,I.turneds (t':=s.toks) (fun c o n e=> ?_) hf⟩
    simp only [zc,zv,or_false,not_or] at n
    exact up c o n.1 n.2.2.1 n.2.2.2.1 n.2.2.2.2 e
section
variable {X:Cx}
def wE (k:Src) (K:PySem.W.Frag) (ta:TA):TI:=fun σ H R=>ta σ H fun vs H1=>∃a b xs ys,vs= [.ref a, .ref b]∧Sqk k K H1 a xs∧Sqk k K H1 b ys∧R (Itz2 k K a b) H1
theorem pi {k:Src} {es:List Expr} {kk:Nat} {pt:Pos} {x y:Expr} {ta:TA} {p pos:Pos} (hg:Gl X "zip") (hm:X.mg "zip"=none) (ha:PA X [x,y] ta) (hs:starEach [x,y] X.env= [(false,eval x X.env),(false,eval y X.env)]:=by rfl) (hs2:starEach [y] X.env= [(false,eval y X.env)]:=by rfl):
 PI X (.Tuple es kk pt) (.Call (.Name "zip" p) [x,y] [] pos) (wE k X.K ta):=by
 intro pins s σ H R I h
 refine Call_ (gy I hg hm PyProof.Rows.boot_zip (PyProof.Rows.callWith_type1 (thn (ha pos pins s σ H _ I h) fun us s1 ⟨vs,H1,I1,r1,q1⟩=> ?_) (by rw [hs,hs2]) (by rw [hs2];rfl)))
 obtain ⟨a,b,xs,ys,e,k1,k2,q⟩:=q1
 subst e
 cases r1 with
 |cons r rr=>
  cases rr with
  |cons r' rr=>
   cases rr
   cases r
   cases r'
   obtain ⟨as,_,p1,_⟩:=I1.sqk k1
   obtain ⟨bs,_,p2,_⟩:=I1.sqk k2
   refine nG p1 p2 fun h' hz hI hO t1 t2 sz up=> ?_
   refine wpAny_pyIter_zip (s:= {s1 with heap:=h'}) hz ?_
   have lta:a < s1.heap.objs.size:=by
    cases k
    · obtain ⟨o,e,_⟩:=p1
      exact Heap.lt_size e
    · obtain ⟨o,e,_⟩:=p1
      exact Heap.lt_size e
   have ltb:b < s1.heap.objs.size:=by
    cases k
    · obtain ⟨o,e,_⟩:=p2
      exact Heap.lt_size e
    · obtain ⟨o,e,_⟩:=p2
      exact Heap.lt_size e
   have na:∀j,a≠s1.heap.objs.size+j:=fun j=>zg (zl lta (A8 ..))
   have nb:∀j,b≠s1.heap.objs.size+j:=fun j=>zg (zl ltb (A8 ..))
   have le:∀c∈ [s1.heap.objs.size+4,s1.heap.objs.size+2,s1.heap.objs.size+3,s1.heap.objs.size+0,s1.heap.objs.size+1],s1.heap.objs.size≤c:=fun c hc=>by
    simp only [zc,zv,or_false] at hc
    rcases hc with rfl|rfl|rfl|rfl|rfl<;>exact A8 ..
   refine ⟨s1.heap.objs.size+4,[s1.heap.objs.size+4,s1.heap.objs.size+2,s1.heap.objs.size+3,s1.heap.objs.size+0,s1.heap.objs.size+1],_,_,H1,rfl,I1.kept (t':=s1.toks) up,qf a b _ _ _ _ _ (by simp),⟨hz,hI,⟨_,_,hO⟩,t1,t2,?_,?_⟩,fun c hc=>I1.fpOk (le c hc) (I1.hok.fresh (le c hc)),q⟩
   · simp only [zc,zv,or_false,not_or]
     exact ⟨na 4,na 2,na 3,na 0,na 1⟩
   · simp only [zc,zv,or_false,not_or]
     exact ⟨nb 4,nb 2,nb 3,nb 0,nb 1⟩
end
def wO (J:It) (mp:List (Option Nat)) (g:TG) (te:TE) (σ:L2.St) (Q:VK) (H1:Hp):Prop:=∀D,H1 D=none→
 ∃W:Nat→Nat→List V→Hp→Prop,(∃m,W 0 m [] (upd H1 D (.lst [])))∧∀i m acc H2,W i m acc H2→
  (J.stop i H2∧Q (.ref D) H2)∨
  (J.go i H2∧∀x H3,J.yld i H2 x H3→g x (subS mp σ) H3 fun σ4 H4=>Ext (subS mp σ) σ4∧cA σ4 H4 fun b H5=>if b=true then te σ4 H5 fun v H6=>H6 D=some (.lst acc)∧acc.length < sizeLine∧∃m',m' < m∧W (i+1) m' (acc++ [v]) (upd H6 D (.lst (acc++ [v]))) else∃m',m' < m∧W (i+1) m' acc H5)
theorem jH {k:Src} {K:PySem.W.Frag} {mp:List (Option Nat)} {ta:TA} {g:TG} {te:TE} {σ:L2.St} {H:Hp} {Q:VK} (h:ta σ H fun vs H1=>∃a b xs ys,vs= [.ref a, .ref b]∧Sqk k K H1 a xs∧Sqk k K H1 b ys∧wO (Itz2 k K a b) mp g te σ Q H1):db mp (wE k K ta) g cA te σ H Q:=h
theorem ny {k:Src} {K K':PySem.W.Frag} {a b:Addr} {mp:List (Option Nat)} {te:TE} {Q:VK} {σ rest:L2.St} {H1:Hp} {xs ys:List V} (e:subS mp σ=none::none::rest) (hl:ys.length≤xs.length)
 (h:∀D,H1 D=none→∃Pv:Nat→List V→Hp→Prop,Pv 0 [] (upd H1 D (.lst []))∧(∀i acc H,Pv i acc H→Sqk k K H a xs∧Sqk k K H b ys)∧
  (∀i T x y acc H,i < ys.length→i < sizeLine→Pv i acc H→xs[i]?=some x→ys[i]?=some y→H T=none→te (some x::some y::rest) (upd H T (.tup [x,y])) (CompN ys.length i D acc Pv))∧∀acc H,Pv ys.length acc H→Q (.ref D) H):
 wO (Itz2 k K a b) mp (gTup K' 2 (bQ (aV 0) (bQ (aV 1) gNil))) te σ Q H1:=by
 intro D nD
 rw [e]
 obtain ⟨Pv,p0,pq,ps,pd⟩:=h D nD
 refine ⟨fun i m acc H=>m=ys.length - i∧i≤ys.length∧Pv i acc H,⟨ys.length,by simp,zG _,p0⟩,?_⟩
 rintro i m acc H ⟨rfl,hi,p⟩
 obtain ⟨q1,q2⟩:=pq i acc H p
 by_cases hlt:i < ys.length
 · refine .inr ⟨⟨xs,ys,xs[i],ys[i],q1,q2,by simp,by simp [hlt]⟩,?_⟩
   rintro v H' ⟨T,x,y,rfl,nT,rfl,y1,y2,z⟩
   refine ⟨T,[x,y],rfl,SqT.of aa,rfl,x,[y],rfl,y,[],rfl,rfl,ext2,?_⟩
   exact ps i T x y acc H hlt z p (y1 xs q1) (y2 ys q2) nT
 · have ei:i=ys.length:=by omega
   subst ei
   refine .inl ⟨?_,pd acc H p⟩
   by_cases hx:xs.length≤ys.length
   · exact .inl ⟨xs,ys,q1,q2,hx⟩
   · exact .inr ⟨xs,ys,q1,q2,by omega,yZ _⟩
end L2
namespace K25
open PySem L2 Mth Tre Wd Dj Su
theorem cut1 (xs:List V):cutV xs (some 1) none=xs.drop 1:=by
 cases xs with
 |nil=>rfl
 |cons x xs=>
  unfold cutV
  rw [show (1:Int)=((1:Nat):Int) by rfl,HT.sIx_nat,HT.sIx_none,Nat.min_eq_left (by simp)]
  simp
theorem uR {r:List V→Hp→VK→Prop} {te:TE} {σ:L2.St} {H:Hp} {Q:Bool→Hp→Prop} (h:te σ H fun v H1=>r [v] H1 fun x H2=>∃c,x= .bl c∧Q (!c) H2):tNot (tB (tCB r (cO te tNil))) σ H Q:=h
section
variable {P:Program} {w:World} {K:PySem.W.Frag} {mg:Str→Option Value} {base:Heap}
def Op (u:Pq):Prop:=Gq 603 u∧(Ln u.1∧u.1.depth≤5)∧u.2≠zero
def spPr:Sp:=fun vs H Q _=>∃(v:V) (u:Pq),vs= [v]∧TrAt H v (prT u)∧Op u∧∀H',Same H H'→Q (.bl true) H'
theorem scPr:aD ["thing"] ["thing"] (ah sPrQ):=⟨rfl,rfl,rfl,by decide +kernel,rfl,by decide +kernel,by decide +kernel⟩
theorem yF {f fO fT fF Z:Addr} {fd dO dT dF:FuncData} (F:Fun K "is_pair" "is_pair" sPrQ f fd)
 (gO:FnOk P w K mg base CX0 1 fO dO ["thing","count"] spTo) (kO:PySem.W.keepIn K (.ref fO)=true) (bO:Binds K dO ["thing","count"] []) (mO:mg "is_tuple_of"=some (.ref fO))
 (gT:FnOk P w K mg base CX0 17 fT dT ["thing"] (spTq 8)) (kT:PySem.W.keepIn K (.ref fT)=true) (bT:Binds K dT ["thing"] []) (mT:mg "is_term"=some (.ref fT))
 (gF:FnOk P w K mg base CX0 4 fF dF ["thing"] spFq) (kF:PySem.W.keepIn K (.ref fF)=true) (bF:Binds K dF ["thing"] []) (mF:mg "is_fraction"=some (.ref fF))
 (mZ:mg "ZERO"=some (.ref Z)) (hZ:∀H:Hp,SqT K H Z [.int 0, .int 1]):FnOk P w K mg base CX0 18 f fd ["thing"] spPr:=by
 refine F.ok scPr (fun vs H Q E h=> ?_) (fun cdv A outer s H vs Q E hr h=> ?_)
 · obtain ⟨v,u,rfl,_⟩:=h
   rfl
 obtain ⟨v,⟨t,x,y⟩,rfl,hv,⟨hq,⟨hln,hd⟩,hz⟩,k⟩:=h
 have hr1:Room 1 _:=hr.mono (by decide)
 have hr4:Room 4 _:=hr.mono (by decide)
 have hu1:=ua hr
 refine ⟨_,aj (am (c9 (ai gO hr1 rfl mO kO bO .nil ak (a8 (pv 0) (a8 ac a9))) (c9 (ai gT hr rfl mT kT bT .nil ak (a8 (aw aq (pv 0) ac fun _ _=>rfl) a9)) (c9 (ai gF hr4 rfl mF kF bF .nil ak (a8 (aw aq (pv 0) ac fun _ _=>rfl) a9))
  (cF (bJ (sS hu1) (aw aq (pv 0) ac fun _ _=>rfl) (ck (v:= .ref Z) rfl mZ rfl) (aA _))))))),?_⟩
 obtain ⟨r,xs,rfl,g,hxs⟩:=at_t hv
 obtain ⟨z1,l1,rfl,q1,hr1'⟩:=hxs.inv
 obtain ⟨z2,l2,rfl,q2,hr2'⟩:=hr1'.inv
 unfold TrsAt at hr2'
 subst hr2'
 refine ⟨_,rfl,r,_,2,rfl,g,_,rfl,iteT ?_⟩
 refine ⟨_,rfl,r,_,0,_,rfl,rfl,SqT.of g,rfl,z1,t,rfl,q1,hln,by have:t.depth≤5:=hd;omega,fun H1 s1=>⟨_,rfl,iteT ?_⟩⟩
 have g1:=s1 _ _ g
 refine ⟨_,rfl,r,_,1,_,rfl,rfl,SqT.of g1,rfl,z2,(x,y),rfl,q2.mono (Kd.of_same s1),hq.gf.mono (by decide),hq.sh,fun H2 s2=>⟨_,rfl,iteT ?_⟩⟩
 have s12:=s1.trans s2
 obtain ⟨q,qs,rfl,gq,hqs⟩:=at_t (q2.mono (Kd.of_same s12))
 obtain ⟨w1,l1,rfl,p1,ht1⟩:=hqs.inv
 obtain ⟨w2,l2,rfl,p2,ht2⟩:=ht1.inv
 unfold TrsAt at ht2
 subst ht2
 unfold TrAt at p1 p2
 subst p1 p2
 refine ⟨_,rfl,r,_,1,_,rfl,rfl,SqT.of (s12 _ _ g),rfl,q,Z,x,y,0,1,rfl,rfl,SqT.of gq,hZ _,?_⟩
 have:¬(x=0∧y=1):=fun z=>hz (Prod.ext z.1 z.2)
 rw [decide_eq_false this]
 exact k _ s12
def spSq:Sp:=fun vs H Q _=>∃(v:V) (us:List Pq),vs= [v]∧TrAt H v (.tup (us.map prT))∧us.length≤64∧Asc us∧(∀u∈us,Op u)∧∀H',Same H H'→Q (.bl true) H'
theorem scSq:aD ["thing"] ["thing"] (ah sSmQ):=⟨rfl,rfl,rfl,by decide +kernel,rfl,by decide +kernel,by decide +kernel⟩
theorem yC {f fP:Addr} {fd dP:FuncData} (F:Fun K "is_sum" "is_sum" sSmQ f fd) (B:Blt mg)
 (gP:FnOk P w K mg base CX0 18 fP dP ["thing"] spPr) (kP:PySem.W.keepIn K (.ref fP)=true) (bP:Binds K dP ["thing"] []) (mP:mg "is_pair"=some (.ref fP)):FnOk P w K mg base CX0 19 f fd ["thing"] spSq:=by
 refine F.ok scSq (fun vs H Q E h=> ?_) (fun cdv A outer s H vs Q E hr h=> ?_)
 · obtain ⟨v,us,rfl,_⟩:=h
   rfl
 obtain ⟨v,us,rfl,hv,hl,hasc,hop,k⟩:=h
 have hun:=hr.units
 have hu50:_+50 < cLine:=zq (zM (by decide) _) hun
 have nd2:(["one","other"]:List Str).Nodup:=by decide +kernel
 refine ⟨_,af (aP (PW.pt (cP (cj (bf (ar (r:=rIsi K) aX rfl B.isi ao (a8 (pv 0) (a8 (bh (v:= .ty "tuple") rfl B.tu PyProof.Rows.boot_tuple rfl) a9))))) (cR (cj (bf (ar (eX rfl) rfl B.al PyProof.Rows.boot_all (a8 (bZ (NC:= ["pair"]) (mp:= [none]) rfl (cL (pv 0)) (fun _ _ _ _ _=>ax (i:=0) (by simp) rfl (Or.inl rfl)) (fun _ _ _ _ _=>bw) (fun _ _ _ _ _=>ai gP hr rfl mP kP bP .nil ak (a8 (pv 0) a9))) a9))))))) (aj (am cQ)) au)
  (aj (am (ar (eX rfl) rfl B.al PyProof.Rows.boot_all (a8 (bZ (NC:= ["one","other"]) (mp:= [none,none]) (g:=gTup K 2 (bQ (aV 0) (bQ (aV 1) gNil))) rfl (pi (k:= .tup) rfl B.zi (a8 (pv 0) (a8 (bu SlW.sl_A (pv 0) (cf ac) cg) a9))) (fun _ _ _ _ _=>cw (n:=2) rfl (aI (ax (i:=0) nd2 rfl (Or.inl rfl)) (aI (ax (i:=1) nd2 rfl (Or.inl rfl)) ci))) (fun _ _ _ _ _=>bw)
   (fun _ _ _ _ _=>bJ (r:=rLtR) (xp hu50) (aw (r:=rIxT K) aq (pv 0) ac fun _ _=>rfl) (aw (r:=rIxT K) aq (pv 1) ac fun _ _=>rfl) (aA _))) a9)))),?_⟩
 have hL20:(20000:Nat)≤sizeLine:=by decide +kernel
 obtain ⟨r,xs,rfl,g,hxs⟩:=at_t hv
 have xl:=hxs.len
 rw [yW] at xl
 have atu:∀ {H':Hp} {j:Nat} {z:V},Same H H'→xs[j]?=some z→∃u,us[j]?=some u∧TrAt H' z (prT u):=fun {H' j z} s' ez=>by
  obtain ⟨t',et,ht'⟩:=(hxs.mono (Kd.of_same s')).get' ez
  rw [zF] at et
  obtain ⟨u,eu,rfl⟩:=zH.mp et
  exact ⟨u,eu,ht'⟩
 refine ⟨_,rfl, .ref r, .ty "tuple", .type "tuple",true,rfl, .of (.tup g), .inl ⟨rfl,lx K⟩,_,rfl,iteF ?_⟩
 refine uR ?_
 refine cJ (rest:= []) rfl ?_
 refine ⟨_,rfl,r,rfl,⟨xs,SqT.of g⟩,fun L nL=> ?_⟩
 refine dy (xs:=xs) (fun i acc H'=>Same H H'∧H' L=some (.lst acc)∧acc=(List.replicate i true).map V.bl) ⟨ae nL,aa,rfl⟩ (fun i acc H' p=>SqT.of (p.1 _ _ g)) ?_ ?_
 · rintro i z acc H' hi ez ⟨sH,hL,rfl⟩
   obtain ⟨u,eu,hu⟩:=atu sH ez
   refine ⟨_,rfl,z,u,rfl,hu,hop u (z7 eu),fun H6 s6=> ?_⟩
   refine CompN.mk hi (by rw [yW,Ai];omega) (s6 _ _ hL) ⟨br nL (sH.trans s6),aa,?_⟩
   rw [List.replicate_succ',zh]
   rfl
 rintro acc H1 ⟨s1,hL,rfl⟩
 refine ⟨L,_,rfl,SqL.of hL,?_⟩
 rw [oK]
 refine ⟨_,rfl,iteF ?_⟩
 refine kj ?_
 try dsimp only
 refine lQ ?_
 refine ko ?_
 refine jH ?_
 refine ⟨_,rfl,_,rfl,_,rfl,r,xs,rfl,s1 _ _ g,fun p H2 s2 hp=> ?_⟩
 rw [cut1 xs] at hp
 have s12:=s1.trans s2
 have g2:=s12 _ _ g
 refine ⟨r,p,xs,xs.drop 1,rfl,SqT.of g2,SqT.of hp,?_⟩
 refine ny (K':=K) (rest:= []) (xs:=xs) (ys:=xs.drop 1) rfl (by rw [zI];omega) fun D nD=> ?_
 refine ⟨fun i acc H'=>Same H2 H'∧H' D=some (.lst acc)∧acc=(List.replicate i true).map V.bl,⟨ae nD,aa,rfl⟩,fun i acc H' q=>⟨SqT.of (q.1 _ _ g2),SqT.of (q.1 _ _ hp)⟩,?_,?_⟩
 · rintro i T x y acc H3 hi _ ⟨s3,hD,rfl⟩ ex ey nT
   rw [zI] at hi
   rw [List.getElem?_drop] at ey
   have sT:=ae (o:= .tup [x,y]) nT
   have s13:=(s12.trans s3).trans sT
   obtain ⟨u,eu,hu⟩:=atu s13 ex
   obtain ⟨z,ez,hz⟩:=atu s13 ey
   have lt:ltT u.1 z.1=true:=by
    have h1:=(zd.mp eu)
    have h2:=(zd.mp ez)
    obtain ⟨i1,e1⟩:=h1
    obtain ⟨i2,e2⟩:=h2
    have:=List.pairwise_iff_getElem.mp hasc i (1+i) i1 i2 (by omega)
    rw [e1,e2] at this
    exact this
   have ou:=hop u (z7 eu)
   have oz:=hop z (z7 ez)
   obtain ⟨a,as,rfl,ga,has⟩:=at_t hu
   obtain ⟨b,bs,rfl,gb,hbs⟩:=at_t hz
   obtain ⟨a1,l1,rfl,q1,_⟩:=has.inv
   obtain ⟨b1,l2,rfl,q2,_⟩:=hbs.inv
   refine ⟨_,rfl,a,_,0,_,rfl,rfl,SqT.of ga,fe (j:=0) rfl,_,rfl,b,_,0,_,rfl,rfl,SqT.of gb,fe (j:=0) rfl,u.1,z.1,q1,q2, .inl (cV ou.1.ty),lO 30 (by have:=ou.1.dep;omega) ou.1.ty oz.1.ty,by have:=ou.1.dep;omega,?_⟩
   rw [lt]
   refine CompN.mk (by rw [zI];exact hi) (by rw [yW,Ai];omega) (sT _ _ hD) ⟨br nD (s3.trans sT),aa,?_⟩
   rw [List.replicate_succ',zh]
   rfl
 rintro acc H3 ⟨s3,hD,rfl⟩
 refine ⟨D,_,rfl,SqL.of hD,?_⟩
 rw [oK]
 exact k _ (s12.trans s3)
end
end K25
namespace K25
open PySem L2 Mth Tre Wd Su
abbrev Pd:=List Pq×Fr×Fr×Bool
noncomputable def pdT (d:Pd):Tr:=ptT d.1 d.2.1 d.2.2.1 d.2.2.2
def PdOk (s e g ew:Nat) (d:Pd):Prop:=PtOk s e g ew d.1 d.2.1 d.2.2.1
noncomputable def sgD (d:Pd):Fr:=sgF d.2.2.2 d.2.2.1
def nps (ds:List Pd):Nat:=(ds.map fun d=>d.1.length).sum
theorem cC (a b:List Pd):nps (a++b)=nps a+nps b:=by
 unfold nps
 rw [zh,List.sum_append]
theorem mz (ds:List Pd) (i:Nat):nps (ds.take i)≤nps ds:=by
 have:=cC (ds.take i) (ds.drop i)
 rw [A1] at this
 omega
noncomputable def twt (t:Tr):List Pd→Rat
 | []=>0
 |d::r=>tot t d.1*rv (sgD d)+twt t r
noncomputable def tbd:List Pd→Rat
 | []=>0
 |d::r=>rv d.2.1*rv (sgD d)+tbd r
theorem uQ (t:Tr) (a b:List Pd):twt t (a++b)=twt t a+twt t b:=by
 induction a with
 |nil=>simp only [List.nil_append,twt];grind
 |cons p r ih=>simp only [List.cons_append,twt,ih];grind
theorem oT (a b:List Pd):tbd (a++b)=tbd a+tbd b:=by
 induction a with
 |nil=>simp only [List.nil_append,tbd];grind
 |cons p r ih=>simp only [List.cons_append,tbd,ih];grind
theorem pc {H:Hp} {v:V} {us:List Pq} {f wt:Fr} {b:Bool} (h:TrAt H v (ptT us f wt b)):∃r a ru rf rw',v= .ref r∧H r=some (.tup [.ref a, .bl b, .ref rw'])∧H a=some (.tup [.str "most", .ref ru, .ref rf])∧TrAt H (.ref ru) (.tup (us.map prT))∧H rf=some (.tup [.int f.1, .int f.2])∧H rw'=some (.tup [.int wt.1, .int wt.2]):=by
 obtain ⟨r,vs,rfl,h1,h2⟩:=at_t h
 obtain ⟨x0,rr,rfl,hx0,h3⟩:=h2.inv
 obtain ⟨x1,rr2,rfl,hx1,h4⟩:=h3.inv
 obtain ⟨x2,rr3,rfl,hx2,h5⟩:=h4.inv
 unfold TrsAt at h5
 subst h5
 unfold TrAt at hx1
 subst hx1
 obtain ⟨rw',rfl,hrw⟩:=cH hx2
 obtain ⟨a,y,z,rfl,ha,hy,hz⟩:=at3 hx0
 obtain ⟨ru,vs,rfl,hru,hrs⟩:=at_t hy
 obtain ⟨rf,rfl,hrf⟩:=cH hz
 exact ⟨r,a,ru,rf,rw',rfl,h1,ha,hy,hrf,hrw⟩
theorem gf_zero1:Gf 1 zero:=⟨by decide,by show (0:Nat) < 2^1;decide,by show (1:Nat) < 2^1;decide⟩
section
variable {P:Program} {w:World} {K:PySem.W.Frag} {mg:Str→Option Value} {base:Heap}
structure Tts (ds:List Pd) (as:List Pq) (bd:Fr):Prop where
 sh:∀p∈as,Sh p.2∧p.2≠zero
 tt:∀t,tot t as=twt t ds
 sb:Sh bd
 tb:rv bd=tbd ds
def gK:Sp:=fun vs H Q _=>∃(l:Addr) (ws:List V) (ds:List Pd) (s e g ew:Nat),vs= [.ref l]∧Sq H l ws∧TrsAt H ws (ds.map pdT)∧(∀d∈ds,PdOk s e g ew d)∧nps ds < 64∧s < 64∧s*(e+ew+3)≤8000∧ds.length*(e+ew+3)+1≤8000∧ds.length*(g+ew+3)+1≤8000∧e≤3000∧g≤3000∧ew≤2998∧
 ∀(x:V) (H':Hp) (as:List Pq) (bd:Fr),Same H H'→TrAt H' x (.tup [.tup (as.map prT),frT bd])→Tts ds as bd→Us (nps ds) (ds.length*(e+ew+3)) as→Gf (ds.length*(g+ew+3)+1) bd→Q x H'
theorem scTo:aD ["_law_parts_here","_law_whole_here","_law_bound","_law_part_here"] ["_law_parts_here"] (ah fH):=⟨rfl,rfl,rfl,by decide +kernel,rfl,by decide +kernel,by decide +kernel⟩
theorem qv {f fA fB fS fP fT:Addr} {fd dA dB dS dP dT:FuncData} (F:Fun K "_law_totals" "_law_totals" fH f fd)
 (gA:FnOk P w K mg base CX0 4 fA dA ["one","other"] iV) (kA:PySem.W.keepIn K (.ref fA)=true) (bA:Binds K dA ["one","other"] []) (mA:mg "sum_plus"=some (.ref fA))
 (gB:FnOk P w K mg base CX0 4 fB dB ["one","many"] gY) (kB:PySem.W.keepIn K (.ref fB)=true) (bB:Binds K dB ["one","many"] []) (mB:mg "sum_times"=some (.ref fB))
 (gS:FnOk P w K mg base CX0 3 fS dS ["_law_part_here"] gQ) (kS:PySem.W.keepIn K (.ref fS)=true) (bS:Binds K dS ["_law_part_here"] []) (mS:mg "_law_signed"=some (.ref fS))
 (gP:FnOk P w K mg base CX0 2 fP dP ["one","other"] (eZ K)) (kP:PySem.W.keepIn K (.ref fP)=true) (bP:Binds K dP ["one","other"] []) (mP:mg "plus"=some (.ref fP))
 (gT:FnOk P w K mg base CX0 2 fT dT ["one","other"] (de K)) (kT:PySem.W.keepIn K (.ref fT)=true) (bT:Binds K dT ["one","other"] []) (mT:mg "times"=some (.ref fT)):FnOk P w K mg base CX0 5 f fd ["_law_parts_here"] gK:=by
 refine F.ok scTo (fun vs H Q E h=> ?_) (fun cdv A outer s H vs Q E hr h=> ?_)
 · obtain ⟨l,ws,ds,s,e,g,ew,rfl,_⟩:=h
   rfl
 obtain ⟨l,ws,ds,s_,e,g,ew,rfl,hl,hT,hd,n64,s64,s8,d8,b8,e3,g3,w3,k⟩:=h
 have hr2:Room 2 _:=hr.mono (by decide)
 have hr3:Room 3 _:=hr.mono (by decide)
 refine ⟨_,af (aJ (i:=1) scTo.nd rfl (Or.inl rfl) (aB a9))
  (af (aJ (i:=2) scTo.nd rfl (Or.inl rfl) (aB (a8 ac (a8 ac a9))))
  (af (gv PassesOwn.never rfl (xm (pv 0)) (ax (i:=3) scTo.nd rfl (Or.inl rfl))
   (af (aJ (i:=1) scTo.nd rfl (Or.inl rfl) (ai gA hr rfl mA kA bA .nil ak (a8 (pv 1) (a8 (ai gB hr rfl mB kB bB .nil ak (a8 (aw aq (aw aq (pv 3) ac fun _ _=>rfl) ac fun _ _=>rfl) (a8 (ai gS hr3 rfl mS kS bS .nil ak (a8 (pv 3) a9)) a9))) a9))))
   (aj (aJ (i:=2) scTo.nd rfl (Or.inl rfl) (ai gP hr2 rfl mP kP bP .nil ak (a8 (pv 2) (a8 (ai gT hr2 rfl mT kT bT .nil ak (a8 (aw aq (aw aq (pv 3) ac fun _ _=>rfl) ac fun _ _=>rfl) (a8 (ai gS hr3 rfl mS kS bS .nil ak (a8 (pv 3) a9)) a9))) a9)))))))
  (aj (am (aB (a8 (pv 1) (a8 (pv 2) a9))))))),?_⟩
 have hL:(20000:Nat)≤sizeLine:=by decide +kernel
 have wl:=hT.len
 rw [yW] at wl
 refine ⟨by show 0≤sizeLine;decide,fun p1 np1=> ?_⟩
 have s1:=ae (o:= .tup []) np1
 refine ⟨by show 2≤sizeLine;decide,fun p2 np2=> ?_⟩
 have s2:=ae (o:= .tup [.int 0, .int 1]) np2
 have s12:=s1.trans s2
 refine vR (a:=l) (xs:=ws) (fun Q q=>⟨_,rfl,q⟩) (hl.same s12) (fun i σ H'=>Same (upd (upd H p1 (.tup [])) p2 (.tup [.int 0, .int 1])) H'∧∃(wv bv:V) (v3:Option V) (as:List Pq) (bd:Fr),σ= [some (.ref l),some wv,some bv,v3]∧TrAt H' wv (.tup (as.map prT))∧Tts (ds.take i) as bd∧Us (nps (ds.take i)) (i*(e+ew+3)) as∧TrAt H' bv (frT bd)∧Gf (i*(g+ew+3)+1) bd)
  ⟨Same.refl _,_,_,none,[],zero,rfl,aU (s2 _ _ aa) .nil,⟨(fun p m=>by cases m),(fun t=>by rw [zQ];rfl),kY,by rw [zQ];exact rv_zero⟩,⟨List.Pairwise.nil,zG _,(fun p m=>by cases m),(fun p m=>by cases m),fun p m=>by cases m⟩,aK aa,gf_zero1.mono (by omega)⟩ (fun i σ H' _ p=>p.1) ?_ ?_
 · rintro i x σ H1 ex ⟨sH,wv,bv,v3,as,bd,rfl,hw,tts,uas,hb,gb⟩
   obtain ⟨t,et,ht⟩:=(hT.mono (Kd.of_same (s12.trans sH))).get' ex
   rw [zF] at et
   obtain ⟨⟨us,ff,wt,b⟩,ed,rfl⟩:=zH.mp et
   have ilt:i < ds.length:=(zd.mp ed).1
   have ho:PtOk s_ e g ew us ff wt:=hd _ (z7 ed)
   have etk:=be ed
   have hnl:nps (ds.take i)+us.length=nps (ds.take (i+1)):=by
    rw [etk,cC]
    simp [nps]
   have hnl2:=mz ds (i+1)
   have hmul:(i+1)*(e+ew+3)=i*(e+ew+3)+e+ew+3:=by rw [Nat.succ_mul];omega
   have hmul2:(i+1)*(e+ew+3)≤ds.length*(e+ew+3):=zT _ ilt
   have hmulg:(i+1)*(g+ew+3)=i*(g+ew+3)+g+ew+3:=by rw [Nat.succ_mul];omega
   have hmulg2:(i+1)*(g+ew+3)≤ds.length*(g+ew+3):=zT _ ilt
   have ht':TrAt H1 x (ptT us ff wt b):=ht
   obtain ⟨r,a,ru,rf,rw',rfl,h1,ha,hu,hrf,hrw⟩:=pc ht'
   have ssg:Sh (sgF b wt):=io ho.sw
   refine ⟨_,rfl,_,rfl,r,_,0, .ref a,rfl,rfl,SqT.of h1,rfl,a,_,1, .ref ru,rfl,rfl,SqT.of ha,rfl,_,rfl, .ref r,us,ff,wt,b,_,_,_,_,rfl,ht',ho,by omega,fun sx H2 s2' hsx gsx=> ?_⟩
   refine ⟨_,_,us,sgF b wt,s_,e,ew+2,rfl,hu.mono (Kd.of_same s2'),hsx,ssg,gsx,ho.us.len,s64,by rw [show e+(ew+2)+1=e+ew+3 by omega];exact s8,by omega,by omega,ho.us.asc,ho.us.gq,fun y H3 vs s3 hy hcan hvl hgv=> ?_⟩
   refine ⟨_,_,as,vs,i*(e+ew+3),e+(ew+2),rfl,hw.mono (Kd.of_same (s2'.trans s3)),hy,by have:=uas.len;omega,by omega,uas.asc,hcan.asc,uas.gq,hgv,fun z H4 xs s4 hz hcx hxl hgx=> ?_⟩
   have uvs:Us us.length (e+(ew+2)) vs:=Us.can hcan hvl hgv fun p m=>by
    obtain ⟨q,mq,rfl⟩:=zx.mp m
    exact ho.us.ln q mq
   have sA:=s2'.trans (s3.trans s4)
   refine aR ?_
   dsimp only
   have ht4:=ht'.mono (Kd.of_same sA)
   refine ⟨_,rfl,_,rfl,r,_,0, .ref a,rfl,rfl,SqT.of (sA _ _ h1),rfl,a,_,2, .ref rf,rfl,rfl,SqT.of (sA _ _ ha),rfl,_,rfl, .ref r,us,ff,wt,b,_,_,_,_,rfl,ht4,ho,by omega,fun sy H5 s5 hsy gsy=> ?_⟩
   obtain ⟨ry,rfl,hry⟩:=cH hsy
   refine ⟨rf,ry,_,_,_,_,rfl,SqT.of (s5 _ _ (sA _ _ hrf)),SqT.of hry,⟨ho.gf.pos,gsy.pos,ho.gf.b1 (by omega),ho.gf.b2 (by omega),gsy.b1 (by omega),gsy.b2 (by omega)⟩,fun r6 H6 _ s6 h6=> ?_⟩
   have gt:Gf (g+(ew+2)) (bq ff (sgF b wt)):=ho.gf.times gsy
   have st:Sh (bq ff (sgF b wt)):=cy ho.sf ssg
   obtain ⟨rb,rfl,hrb⟩:=cH (hb.mono (Kd.of_same (sA.trans (s5.trans s6))))
   refine ⟨rb,r6,_,_,(bq ff (sgF b wt)).1,(bq ff (sgF b wt)).2,rfl,SqT.of hrb,SqT.of h6,⟨gb.pos,gt.pos,gb.b1 (by omega),gb.b2 (by omega),gt.b1 (by omega),gt.b2 (by omega)⟩,fun r7 H7 _ s7 h7=> ?_⟩
   refine ⟨sH.trans (sA.trans (s5.trans (s6.trans s7))),z, .ref r7,_,xs,cK bd (bq ff (sgF b wt)),rfl,hz.mono (Kd.of_same (s5.trans (s6.trans s7))),⟨hcx.sh,fun t=> ?_,df tts.sb st,?_⟩,?_,aK h7,(gb.plus gt).mono (by omega)⟩
   · rw [hcx.eq,dQ,tts.tt,hcan.eq,jG t ssg fun p m=>(ho.us.gq p m).sh,etk,uQ]
     simp only [twt,sgD]
     grind
   · rw [iY tts.sb st,tts.tb,hG ho.sf ssg,etk,oT]
     simp only [tbd,sgD]
     grind
   · refine Us.can hcx (by have:=uas.len;omega) (fun p m=>(hgx p m).mono (by omega)) fun p m=> ?_
     exact (zf.mp m).elim (uas.ln p) (uvs.ln p)
 · rintro σ H1 ⟨sH,wv,bv,v3,as,bd,rfl,hw,tts,uas,hb,gb⟩
   rw [wl] at gb uas tts
   rw [zL] at tts uas
   refine ⟨_,rfl,_,rfl,by show 2≤sizeLine;decide,fun p np=> ?_⟩
   have sp:=ae (o:= .tup [wv,bv]) np
   exact k (.ref p) _ as bd (s12.trans (sH.trans sp)) (cN aa (hw.mono (Kd.of_same sp)) (hb.mono (Kd.of_same sp))) tts uas gb
end
open PySem L2 Mth Tre Wd Su
theorem sN {H:Hp} {q0 q1 q2 q3 q4:Addr} {r:Int} (h0:0≤r) (h5:r < 5) (a0:H q0=some (.tup [.int 0, .int 1])) (a1:H q1=some (.tup [.int (-1), .int 2])) (a2:H q2=some (.tup [.int (-3), .int 1])) (a3:H q3=some (.tup [.int 0, .int 1])) (a4:H q4=some (.tup [.int 1, .int 3])):
 ∃(v:V) (p:Fr),atI [V.ref q0, .ref q1, .ref q2, .ref q3, .ref q4] r=some v∧TrAt H v (frT p)∧Gf 3 p∧Sh p:=by
 have:r=0∨r=1∨r=2∨r=3∨r=4:=by omega
 rcases this with rfl|rfl|rfl|rfl|rfl
 · exact ⟨.ref q0,(0,1),rfl,aK a0,⟨by decide,by unfold Lt2;decide,by unfold Lt2;decide⟩,⟨by decide,by decide⟩⟩
 · exact ⟨.ref q1,(-1,2),rfl,aK a1,⟨by decide,by unfold Lt2;decide,by unfold Lt2;decide⟩,⟨by decide,by decide⟩⟩
 · exact ⟨.ref q2,(-3,1),rfl,aK a2,⟨by decide,by unfold Lt2;decide,by unfold Lt2;decide⟩,⟨by decide,by decide⟩⟩
 · exact ⟨.ref q3,(0,1),rfl,aK a3,⟨by decide,by unfold Lt2;decide,by unfold Lt2;decide⟩,⟨by decide,by decide⟩⟩
 · exact ⟨.ref q4,(1,3),rfl,aK a4,⟨by decide,by unfold Lt2;decide,by unfold Lt2;decide⟩,⟨by decide,by decide⟩⟩
theorem gH {H:Hp}:∀ {ws:List V} {ts:List Tr} (i:Nat),TrsAt H ws ts→TrsAt H (ws.take i) (ts.take i)
 |ws,ts,0,_=>by rw [zQ,zQ];exact .nil
 |ws,[],i+1,h=>by
  unfold TrsAt at h
  subst h
  rw [List.take_nil,List.take_nil]
  exact .nil
 |ws,t::ts,i+1,h=>by
  refine hide fun q_ e_=> ?_
  obtain ⟨x,r,rfl,h1,h2⟩:=h.inv
  subst e_
  rw [List.take_succ_cons,List.take_succ_cons]
  exact .cons h1 (gH i h2)
theorem gJ {H:Hp}:∀ {ws:List V} {ts:List Tr} (i:Nat),TrsAt H ws ts→TrsAt H (ws.drop i) (ts.drop i)
 |ws,ts,0,h=>by rw [List.drop_zero,List.drop_zero];exact h
 |ws,[],i+1,h=>by
  unfold TrsAt at h
  subst h
  rw [List.drop_nil,List.drop_nil]
  exact .nil
 |ws,t::ts,i+1,h=>by
  refine hide fun q_ e_=> ?_
  obtain ⟨x,r,rfl,h1,h2⟩:=h.inv
  subst e_
  rw [List.drop_succ_cons,List.drop_succ_cons]
  exact gJ i h2
structure Pk (c s n e g ew:Nat) (ds:List Pd):Prop where
 len:ds.length≤c
 nn:nps ds≤n
 ok:∀d∈ds,PdOk s e g ew d
section
variable {P:Program} {w:World} {K:PySem.W.Frag} {mg:Str→Option Value} {base:Heap}
def kH:Sp:=fun vs H Q _=>∃(tp c nl:Addr) (k:Nat),vs= [.ref tp, .ref nl]∧TapeAt H tp c k∧k+400≤1000000∧Names H nl∧nl≠tp∧
 ∀v ds H',TapeAt H' tp c (k+400)→But tp H H'→TrAt H' v (.tup (ds.map pdT))→Pk 4 9 18 181 102 14 ds→ds≠ []→Q v H'
theorem scPs:aD ["_law_tape_here","_law_names_here","_law_parts_here","_law_whole_here","_law_bound","_law_last","_law_less","_law_aim","_law_atom"] ["_law_tape_here","_law_names_here"] (ah iw):=⟨rfl,rfl,rfl,by decide +kernel,rfl,by decide +kernel,by decide +kernel⟩
theorem sX {f fP fT fS fD fM fN fB fX C:Addr} {fd dP dT dS dD dM dN dB dX:FuncData} (F:Fun K "_law_parts" "_law_parts" iw f fd) (B:Blt mg)
 (gP:FnOk P w K mg base CX0 5 fP dP ["_law_tape_here","_law_names_here"] nU) (kP:PySem.W.keepIn K (.ref fP)=true) (bP:Binds K dP ["_law_tape_here","_law_names_here"] []) (mP:mg "_law_part"=some (.ref fP))
 (gT:FnOk P w K mg base CX0 5 fT dT ["_law_parts_here"] gK) (kT:PySem.W.keepIn K (.ref fT)=true) (bT:Binds K dT ["_law_parts_here"] []) (mT:mg "_law_totals"=some (.ref fT))
 (gS:FnOk P w K mg base CX0 3 fS dS ["_law_part_here"] gQ) (kS:PySem.W.keepIn K (.ref fS)=true) (bS:Binds K dS ["_law_part_here"] []) (mS:mg "_law_signed"=some (.ref fS))
 (gD:FnOk P w K mg base CX0 1 fD dD ["_law_tape_here","_law_many"] eD) (kD:PySem.W.keepIn K (.ref fD)=true) (bD:Binds K dD ["_law_tape_here","_law_many"] []) (mD:mg "_law_draw"=some (.ref fD))
 (gM:FnOk P w K mg base CX0 4 fM dM ["one","many"] gY) (kM:PySem.W.keepIn K (.ref fM)=true) (bM:Binds K dM ["one","many"] []) (mM:mg "sum_times"=some (.ref fM))
 (gN:FnOk P w K mg base CX0 3 fN dN ["one","other"] kJ) (kN:PySem.W.keepIn K (.ref fN)=true) (bN:Binds K dN ["one","other"] []) (mN:mg "minus"=some (.ref fN))
 (gB:FnOk P w K mg base CX0 2 fB dB ["one","other"] (de K)) (kB:PySem.W.keepIn K (.ref fB)=true) (bB:Binds K dB ["one","other"] []) (mB:mg "times"=some (.ref fB))
 (gX:FnOk P w K mg base (CX1 P w) 4 fX dX ["one","other"] (ja C)) (kX:PySem.W.keepIn K (.ref fX)=true) (bX:Binds K dX ["one","other"] []) (mX:mg "parted"=some (.ref fX)):
 FnOk P w K mg base CX0 6 f fd ["_law_tape_here","_law_names_here"] kH:=by
 refine F.ok scPs (fun vs H Q E h=> ?_) (fun cdv A outer s H vs Q E hr h=> ?_)
 · refine hide fun q_ e_=> ?_
   obtain ⟨tp,c,nl,k,rfl,_⟩:=h
   subst e_
   rfl
 refine hide fun q_ e_=> ?_
 obtain ⟨tp,c,nl,kk,rfl,hT,hn,hN,nt,k⟩:=h
 subst e_
 have hr1:Room 1 _:=hr.mono (by decide)
 have hr2:Room 2 _:=hr.mono (by decide)
 have hr3:Room 3 _:=hr.mono (by decide)
 have hr4:Room 4 _:=hr.mono (by decide)
 refine ⟨_,af (l5 (NC:= ["_law_k","_law_names_here","_law_tape_here"]) (mp:= [none,some 1,some 0]) (i:=2) rfl scPs.nd rfl rfl rfl (di rfl B.ra (a8 (ai gD hr1 rfl mD kD bD .nil ak (a8 (pv 0) (a8 ac a9))) a9)) (fun _ _ _ _ _=>ax (i:=0) (show (["_law_k","_law_names_here","_law_tape_here"]:List Str).Nodup by decide +kernel) rfl (Or.inl rfl)) (fun _ _ _ _ _=>bw)
  (fun _ _ _ _ _=>ai gP hr rfl mP kP bP .nil ak (a8 (pv 2) (a8 (pv 1) a9))))
  (af (fk (ai gT hr rfl mT kT bT .nil ak (a8 (pv 2) a9)) (cw rfl (aI (ax (i:=3) scPs.nd rfl (Or.inl rfl)) (aI (ax (i:=4) scPs.nd rfl (Or.inl rfl)) ci))))
  (af (aJ (i:=5) scPs.nd rfl (Or.inl rfl) (ai gP hr rfl mP kP bP .nil ak (a8 (pv 0) (a8 (pv 1) a9))))
  (af (aJ (i:=6) scPs.nd rfl (Or.inl rfl) (ai gX hr4 rfl mX kX bX .nil jf (a8 (aB (a8 (cW cq ac) (a8 ac a9))) (a8 (ai gS hr3 rfl mS kS bS .nil ak (a8 (pv 5) a9)) a9))))
  (af (aJ (i:=7) scPs.nd rfl (Or.inl rfl) (aw bV (cG (a8 (aB (a8 ac (a8 ac a9))) (a8 (aB (a8 (cW cq ac) (a8 ac a9))) (a8 (aB (a8 (cW cq ac) (a8 ac a9))) (a8 (aB (a8 ac (a8 ac a9))) (a8 (aB (a8 ac (a8 ac a9))) a9)))))) (ai gD hr1 rfl mD kD bD .nil ak (a8 (pv 0) (a8 ac a9))) fun _ _=>rfl))
  (af (aJ (i:=8) scPs.nd rfl (Or.inl rfl) (aB (a8 aY (a8 (ai gM hr4 rfl mM kM bM .nil ak (a8 (pv 3) (a8 (pv 6) a9))) (a8 (ai gB hr2 rfl mB kB bB .nil ak (a8 (ai gN hr3 rfl mN kN bN .nil ak (a8 (pv 4) (a8 (pv 7) a9))) (a8 (pv 6) a9))) a9)))))
  (af (f8 (je PySem.F.plainAttrs_list PySem.F.slot_list_insert PySem.F.type_list_insert qA (pv 2) (a8 (ai gD hr1 rfl mD kD bD .nil ak (a8 (pv 0) (a8 (aH bK (ar bp rfl B.le PySem.boot_len (a8 (pv 2) a9)) ac) a9))) (a8 (aB (a8 (pv 8) (a8 (aw aq (pv 5) ac fun _ _=>rfl) (a8 (aw aq (pv 5) ac fun _ _=>rfl) a9)))) a9))))
  (aj (am (cn cp rfl B.tu PyProof.Rows.boot_tuple (a8 (pv 2) a9)))))))))),?_⟩
 have hL:(20000:Nat)≤sizeLine:=by decide +kernel
 refine ke rfl ?_
 refine ⟨_,rfl,tp,c,4,kk,rfl,hT,by omega,by decide,cz (by decide) (by decide),fun r H0 r0 r1 hT0 kp0=> ?_⟩
 refine ⟨r,rfl,by omega,by omega,fun D nD=> ?_⟩
 obtain ⟨m,em⟩:∃m:Nat,r.toNat=m:=⟨_,rfl⟩
 have m3:m≤3:=by omega
 have b0:But tp H H0:=But.of_keep kp0
 have nfD:=hT0.ne nD
 have n0D:=b0.free hT0 nD
 rw [em]
 refine fc (n:=m) (fun i acc H'=>TapeAt H' tp c (kk+1+i*80)∧But tp H H'∧H' D=some (.lst acc)∧∃ds:List Pd,TrsAt H' acc (ds.map pdT)∧ds.length=i∧∀d∈ds,PdOk 3 40 12 12 d)
  ⟨(hT0.wr nfD).mono (by omega),b0.wr n0D,aa,[], .nil,rfl,fun y m=>by cases m⟩ ?_ ?_
 · intro i acc H' hi z_
   refine hide fun q_ e_=> ?_
   obtain ⟨hT',bt,hD,ds,hTs,hl,hw⟩:=z_
   subst e_
   refine ⟨_,rfl,_,rfl,tp,c,nl,kk+1+i*80,rfl,hT',by omega,hN.but nt bt,nt,fun v us ff wt b H6 hT6 b6 hv ho _=> ?_⟩
   have hD6:H6 D=some (.lst acc):=b6 D _ nfD.1 hD
   have kd6:=b6.kd hT' hT6
   have tp6:=Kd.upd (ys:=acc++ [v]) hD6
   have hl2:=hTs.len
   rw [yW] at hl2
   refine CompN.mk hi (by omega) hD6 ⟨(hT6.wr nfD).mono (by omega),(bt.trans b6).wr n0D,aa,ds++ [(us,ff,wt,b)],by rw [zh];exact TrsAt.app (.cons (hv.mono tp6) .nil) (hTs.mono (kd6.trans tp6)),by simp [hl],fun u mu=> ?_⟩
   rcases zf.mp mu with mu|mu
   · exact hw u mu
   · rw [ze.mp mu]
     exact ho
 · intro acc H4 z_
   refine hide fun q_ e_=> ?_
   obtain ⟨hT4,b4,hD,ds,hTs,hl,hw⟩:=z_
   subst e_
   refine aR ?_
   have accl:=hTs.len
   rw [yW] at accl
   have dnl:nps ds≤3*ds.length:=by
    clear hTs accl hl
    induction ds with
    |nil=>exact yZ _
    |cons d r ih=>
     have h1:=(hw d yY).us.len
     have h2:=ih fun x m=>hw x (z6 _ m)
     have h3:nps (d::r)=d.1.length+nps r:=by simp [nps]
     rw [h3,zw]
     omega
   have dl3:ds.length≤3:=by omega
   have q1:ds.length*(40+12+3)≤165:=by omega
   have q2:ds.length*(12+12+3)≤81:=by omega
   refine ⟨_,rfl,D,acc,ds,3,40,12,12,rfl, .inl hD,hTs,hw,by omega,by decide,by decide,by omega,by omega,by decide,by decide,by decide,fun x H5 as bd s5 hx tts uas gb=> ?_⟩
   have asc:=uas.asc
   have al:as.length≤9:=by have:=uas.len;omega
   have ga:∀p∈as,Gq 165 p:=fun p m=>(uas.gq p m).mono q1
   have gb:Gf 82 bd:=gb.mono (by omega)
   have sb:=tts.sb
   refine hide fun q_ e_=> ?_
   obtain ⟨px,wv,bv,rfl,hpx,hwv,hbv⟩:=dY hx
   subst e_
   refine ⟨px,_,rfl,SqT.of hpx,rfl,_,_,rfl,_,_,rfl,rfl,?_⟩
   have hT5:=hT4.same s5
   have b5:=b4.trans (But.of_same s5)
   have hD5:=s5 _ _ hD
   have hTs5:=hTs.mono (Kd.of_same s5)
   refine ⟨_,rfl,_,rfl,tp,c,nl,_,rfl,hT5,by omega,hN.but nt b5,nt,fun lv us ff wt b H6 hT6 b6 hlv ho w0=> ?_⟩
   have kd6:=b6.kd hT5 hT6
   have hD6:=b6 D _ nfD.1 hD5
   refine ⟨_,rfl,by show 2≤sizeLine;decide,fun p7 np7=> ?_⟩
   have s7:=ae (o:= .tup [.int (-1), .int 1]) np7
   have h7:(upd H6 p7 (.tup [.int (-1), .int 1])) p7=some (.tup [.int (-1), .int 1]):=aa
   refine ⟨_,rfl,lv,us,ff,wt,b,3,40,12,12,rfl,hlv.mono (Kd.of_same s7),ho,by decide,fun sx H8 s8 hsx gsx=> ?_⟩
   obtain ⟨sg,esg⟩:∃sg,sgF b wt=sg:=⟨_,rfl⟩
   have ssx:Sh sg:=esg▸io ho.sw
   have sx0:sg.1≠0:=fun z=>by
    have e1:rv sg=0:=by
     show ((sg.1:Int):Rat) / ((sg.2:Int):Rat)=0
     rw [z]
     show (0:Rat) / _=0
     grind
    rw [←esg,rZ ho.sw] at e1
    have e2:rv wt=0:=by
     cases b
     · have:-rv wt=0:=e1
       grind
     · exact e1
    have:=(lW ho.sw).mp e2
    rw [this] at w0
    exact absurd w0 (by decide)
   rw [esg] at hsx gsx
   refine ⟨_,_,m1,sg,2,14,rfl,aK (s8 _ _ h7),hsx,gf_m1,gsx,by decide,by decide,oZ,ssx,sx0,fun le H9 lf s9 hle glf slf=> ?_⟩
   have s69:=s7.trans (s8.trans s9)
   have hT9:=hT6.same s69
   have hD9:=s69 _ _ hD6
   have hTs9:=hTs5.mono (kd6.trans (Kd.of_same s69))
   have hlv9:=hlv.mono (Kd.of_same s69)
   have hwv9:=hwv.mono (kd6.trans (Kd.of_same s69))
   have hbv9:=hbv.mono (kd6.trans (Kd.of_same s69))
   have b9:=b5.trans (b6.trans (But.of_same s69))
   clear hT hT0 hT4 hT5 hTs hTs5 hx hpx hwv hbv hlv hD hD5 hD6 b4 b5 b6 hsx h7 s7 s8 s9 s69
   refine aR ?_
   refine ⟨by show 2≤sizeLine;decide,fun q0 nq0=> ?_⟩
   have t0:=ae (o:= .tup [.int 0, .int 1]) nq0
   refine ⟨_,rfl,by show 2≤sizeLine;decide,fun q1 nq1=> ?_⟩
   have t1:=ae (o:= .tup [.int (-1), .int 2]) nq1
   refine ⟨_,rfl,by show 2≤sizeLine;decide,fun q2 nq2=> ?_⟩
   have t2:=ae (o:= .tup [.int (-3), .int 1]) nq2
   refine ⟨by show 2≤sizeLine;decide,fun q3 nq3=> ?_⟩
   have t3:=ae (o:= .tup [.int 0, .int 1]) nq3
   refine ⟨by show 2≤sizeLine;decide,fun q4 nq4=> ?_⟩
   have t4:=ae (o:= .tup [.int 1, .int 3]) nq4
   refine ⟨by show 5≤sizeLine;decide,fun L nL=> ?_⟩
   have t5:=ae (o:= .lst [.ref q0, .ref q1, .ref q2, .ref q3, .ref q4]) nL
   have a4:=t5 _ _ (aa (o:=HO.tup [.int 1, .int 3]))
   have a3:=t5 _ _ (t4 _ _ (aa (o:=HO.tup [.int 0, .int 1])))
   have a2:=t5 _ _ (t4 _ _ (t3 _ _ (aa (o:=HO.tup [.int (-3), .int 1]))))
   have a1:=t5 _ _ (t4 _ _ (t3 _ _ (t2 _ _ (aa (o:=HO.tup [.int (-1), .int 2])))))
   have a0:=t5 _ _ (t4 _ _ (t3 _ _ (t2 _ _ (t1 _ _ (aa (o:=HO.tup [.int 0, .int 1]))))))
   have tt:=t0.trans (t1.trans (t2.trans (t3.trans (t4.trans t5))))
   have aL:=aa (H:=upd (upd (upd (upd (upd H9 q0 (.tup [.int 0, .int 1])) q1 (.tup [.int (-1), .int 2])) q2 (.tup [.int (-3), .int 1])) q3 (.tup [.int 0, .int 1])) q4 (.tup [.int 1, .int 3])) (a:=L) (o:= .lst [.ref q0, .ref q1, .ref q2, .ref q3, .ref q4])
   generalize upd (upd (upd (upd (upd (upd H9 q0 (.tup [.int 0, .int 1])) q1 (.tup [.int (-1), .int 2])) q2 (.tup [.int (-3), .int 1])) q3 (.tup [.int 0, .int 1])) q4 (.tup [.int 1, .int 3])) L (.lst [.ref q0, .ref q1, .ref q2, .ref q3, .ref q4])=HA at a0 a1 a2 a3 a4 tt aL ⊢
   have hTA:=hT9.same tt
   have nLt:=hTA.ne (r:=L)
   refine ⟨_,rfl,tp,c,5,_,rfl,hTA,by omega,by decide,cz (by decide) (by decide),fun rB HB rB0 rB5 hTB kpB=> ?_⟩
   have bB:But tp HA HB:=But.of_keep kpB
   have kdB:=bB.kd hTA hTB
   have nz:∀q o,HA q=some o→(∀xs,o≠ .lst xs)→q≠tp:=fun q o h1 h2 z=>by
    obtain ⟨xs,hxs⟩:=hTA.lst
    rw [z,hxs] at h1
    exact h2 xs (zu h1).symm
   have nL:L≠tp:=fun z=>by
    have:=hT9.ne (r:=L)
    subst z
    obtain ⟨xs,hxs⟩:=hT9.lst
    have h2:=t4 _ _ (t3 _ _ (t2 _ _ (t1 _ _ (t0 _ _ hxs))))
    rw [nL] at h2
    cases h2
   refine hide fun q_ e_=> ?_
   obtain ⟨av,ap,eav,hav,gap,sap⟩:=sN rB0 rB5 (bB _ _ (nz _ _ a0 (by simp)) a0) (bB _ _ (nz _ _ a1 (by simp)) a1) (bB _ _ (nz _ _ a2 (by simp)) a2) (bB _ _ (nz _ _ a3 (by simp)) a3) (bB _ _ (nz _ _ a4 (by simp)) a4)
   subst e_
   refine ⟨L,_,rB,_,rfl,rfl,SqL.of (bB _ _ nL aL),eav,?_⟩
   have kdAB:=(Kd.of_same tt).trans kdB
   have hleB:=hle.mono kdAB
   have hwvB:=hwv9.mono kdAB
   have hbvB:=hbv9.mono kdAB
   have hlvB:=hlv9.mono kdAB
   have hTsB:=hTs9.mono kdAB
   have hDB:=bB D _ nfD.1 (tt _ _ hD9)
   have bbB:=b9.trans ((But.of_same tt).trans bB)
   clear a0 a1 a2 a3 a4 aL hTA hT9 hle hwv9 hbv9 hlv9 hTs9 hD9 b9 t0 t1 t2 t3 t4 t5 tt
   refine aR ?_
   refine ⟨_,rfl,_,rfl,wv,le,as,lf,9,165,16,rfl,hwvB,hleB,slf,glf,al,by decide,by decide,by decide,by decide,asc,ga,fun y HC vs sC hy hcan hvl hgv=> ?_⟩
   refine ⟨_,rfl,_,rfl,bv,av,bd,ap,82,3,rfl,hbvB.mono (Kd.of_same sC),hav.mono (Kd.of_same sC),gb,gap,by decide,by decide,sb,sap,fun mi HD mf sD hmi gmf smf=> ?_⟩
   obtain ⟨rm,rfl,hrm⟩:=cH hmi
   obtain ⟨rl,rfl,hrl⟩:=cH (hleB.mono (Kd.of_same (sC.trans sD)))
   refine ⟨_,rfl,rm,rl,_,_,_,_,rfl,SqT.of hrm,SqT.of hrl,⟨gmf.pos,glf.pos,gmf.b1 (by decide),gmf.b2 (by decide),glf.b1 (by decide),glf.b2 (by decide)⟩,fun r6 HE _ sE hE=> ?_⟩
   refine ⟨by show 3≤sizeLine;decide,fun pa npa=> ?_⟩
   have sF:=ae (o:= .tup [.str (Str.ofString "most"),y, .ref r6]) npa
   have hat:TrAt (upd HE pa (.tup [.str (Str.ofString "most"),y, .ref r6])) (.ref pa) (.tup [s_ "most", .tup (vs.map prT),frT (bq mf lf)]):=aU aa (.cons cU (.cons (hy.mono (Kd.of_same (sD.trans (sE.trans sF)))) (.cons (aK (sF _ _ hE)) .nil)))
   have sBF:=sC.trans (sD.trans (sE.trans sF))
   generalize upd HE pa (.tup [.str (Str.ofString "most"),y, .ref r6])=HF at hat sBF sF ⊢
   have hTF:=hTB.same sBF
   have hDF:=sBF _ _ hDB
   have hTsF:=hTsB.mono (Kd.of_same sBF)
   have hlvF:=hlvB.mono (Kd.of_same sBF)
   have bbF:=bbB.trans (But.of_same sBF)
   refine aR ?_
   refine ⟨_,rfl, .inl ⟨rfl,_,SqL.of hDF⟩,_,rfl,_,rfl,D,acc,rfl, .inl (SqL.of hDF),_,_,rfl,rfl,?_⟩
   refine ⟨tp,c,(acc.length:Int)+1,_,rfl,hTF,by omega,by omega,cz (by omega) (by omega),fun rG HG rG0 rG1 hTG kpG=> ?_⟩
   have bG:But tp HF HG:=But.of_keep kpG
   have kdG:=bG.kd hTF hTG
   have hlvG:=hlvF.mono kdG
   have hDG:=bG D _ nfD.1 hDF
   refine hide fun q_ e_=> ?_
   obtain ⟨rr,a',ru',rf',rw',rfl,h1G,_,_,_,hrwG⟩:=pc hlvG
   subst e_
   refine ⟨_,rfl,_,rfl,rr,_,1, .bl b,rfl,rfl,SqT.of h1G,rfl,_,rfl,rr,_,2, .ref rw',rfl,rfl,SqT.of h1G,rfl,by show 3≤sizeLine;decide,fun pz npz=> ?_⟩
   have sz:=ae (o:= .tup [.ref pa, .bl b, .ref rw']) npz
   have hDz:=sz _ _ hDG
   obtain ⟨ig,eig⟩:∃ig:Nat,rG=(ig:Int):=⟨rG.toNat,by omega⟩
   refine ⟨D,acc, .ref pz,rG,ig,rfl,rfl,eig,hDz,by omega,by omega,?_⟩
   have nDp:pz≠D:=fun z=>by rw [z,hDG] at npz;cases npz
   have tpz:=Kd.upd (ys:=acc.take ig++ .ref pz::acc.drop ig) hDz
   have kdz:=(Kd.of_same sz).trans tpz
   have hpz:TrAt (upd (upd HG pz (.tup [.ref pa, .bl b, .ref rw'])) D (.lst (acc.take ig++ .ref pz::acc.drop ig))) (.ref pz) (ptT vs (bq mf lf) wt b):=aU ((aG nDp).trans aa) (.cons (hat.mono (kdG.trans kdz)) (.cons e9 (.cons ((aK hrwG).mono kdz) .nil)))
   have hall:=TrsAt.app (TrsAt.cons hpz (gJ ig (hTsF.mono (kdG.trans kdz)))) (gH ig (hTsF.mono (kdG.trans kdz)))
   have hTz:=(hTG.same sz).wr nfD (o:= .lst (acc.take ig++ .ref pz::acc.drop ig))
   have bz:=((bbF.trans bG).trans (But.of_same sz)).wr n0D (o:= .lst (acc.take ig++ .ref pz::acc.drop ig))
   have hDD:(upd (upd HG pz (.tup [.ref pa, .bl b, .ref rw'])) D (.lst (acc.take ig++ .ref pz::acc.drop ig))) D=some (.lst (acc.take ig++ .ref pz::acc.drop ig)):=aa
   generalize upd (upd HG pz (.tup [.ref pa, .bl b, .ref rw'])) D (.lst (acc.take ig++ .ref pz::acc.drop ig))=HZ at hall hTz bz hDD ⊢
   refine ⟨_,rfl,D,_,rfl, .inl ⟨SqL.of hDD,fun l nl'=> ?_⟩⟩
   have sl:=ae (o:= .tup (acc.take ig++ .ref pz::acc.drop ig)) nl'
   have ed:(ds.map pdT).take ig++ptT vs (bq mf lf) wt b::(ds.map pdT).drop ig=(ds.take ig++(vs,bq mf lf,wt,b)::ds.drop ig).map pdT:=by
    rw [zh,zo,List.map_take,List.map_drop]
    rfl
   rw [ed] at hall
   have uvs:Us 9 181 vs:=Us.can hcan (by omega) hgv fun p m=>by
    obtain ⟨q,mq,rfl⟩:=zx.mp m
    exact uas.ln q mq
   have smf:=cy smf slf
   have gmf2:=gmf.times glf
   refine k (.ref l) _ _ ((hTz.same sl).mono (by omega)) (bz.trans (But.of_same sl)) (aU aa (hall.mono (Kd.of_same sl))) ⟨?_,?_,fun d md=> ?_⟩ (by simp)
   · rw [z9,zw,zm,zI]
     omega
   · have e1:=cC (ds.take ig) (ds.drop ig)
     rw [A1] at e1
     have e2:nps ((vs,bq mf lf,wt,b)::ds.drop ig)=vs.length+nps (ds.drop ig):=by simp [nps]
     rw [cC,e2]
     have:=uvs.len
     omega
   · rcases zf.mp md with md|md
     · exact (hw d (List.mem_of_mem_take md)).mono (by decide) (by decide) (by decide) (by decide)
     · rcases zc.mp md with rfl|md
       · exact ⟨uvs,gmf2,smf,ho.gw.mono (by decide),ho.sw⟩
       · exact (hw d (List.mem_of_mem_drop md)).mono (by decide) (by decide) (by decide) (by decide)
end
open PySem L2 Mth Tre Wd Dj Su
theorem nst {x y:String} (h:(Str.ofString x).cps.toList≠(Str.ofString y).cps.toList):¬V.str (Str.ofString x)=V.str (Str.ofString y):=fun e=>h (by injection e with e;rw [e])
noncomputable def moT (us:List Pq) (f:Fr):Tr:= .tup [s_ "most", .tup (us.map prT),frT f]
theorem xM (K:PySem.W.Frag):PySem.W.kitOne K (.type "bool") (.type "bool")=some true:=by kernel_rfl
noncomputable def sgn (x:Int):Int:=if x < 0 then -1 else if 0 < x then 1 else 0
section
variable {P:Program} {w:World} {K:PySem.W.Frag} {mg:Str→Option Value} {base:Heap}
def spAq:Sp:=fun vs H Q _=>∃(v:V) (us:List Pq) (f:Fr),vs= [v]∧TrAt H v (moT us f)∧Us 63 600 us∧Gf 900 f∧Sh f∧∀H',Same H H'→Q (.bl true) H'
theorem scAq:aD ["thing"] ["thing"] (ah sAtQ):=⟨rfl,rfl,rfl,by decide +kernel,rfl,by decide +kernel,by decide +kernel⟩
theorem yN {f fO fS fF:Addr} {fd dO dS dF:FuncData} (F:Fun K "is_atom" "is_atom" sAtQ f fd)
 (gO:FnOk P w K mg base CX0 1 fO dO ["thing","count"] spTo) (kO:PySem.W.keepIn K (.ref fO)=true) (bO:Binds K dO ["thing","count"] []) (mO:mg "is_tuple_of"=some (.ref fO))
 (gS:FnOk P w K mg base CX0 19 fS dS ["thing"] spSq) (kS:PySem.W.keepIn K (.ref fS)=true) (bS:Binds K dS ["thing"] []) (mS:mg "is_sum"=some (.ref fS))
 (gF:FnOk P w K mg base CX0 4 fF dF ["thing"] spFq) (kF:PySem.W.keepIn K (.ref fF)=true) (bF:Binds K dF ["thing"] []) (mF:mg "is_fraction"=some (.ref fF)):FnOk P w K mg base CX0 20 f fd ["thing"] spAq:=by
 refine F.ok scAq (fun vs H Q E h=> ?_) (fun cdv A outer s H vs Q E hr h=> ?_)
 · obtain ⟨v,us,p,rfl,_⟩:=h
   rfl
 obtain ⟨v,us,p,rfl,hv,hs,hg,hsh,k⟩:=h
 have hr1:Room 1 _:=hr.mono (by decide)
 have hr4:Room 4 _:=hr.mono (by decide)
 refine ⟨_,af (aP (bf (ai gO hr1 rfl mO kO bO .nil ak (a8 (pv 0) (a8 ac a9)))) eF au)
  (af (aP (cj (bf (ai gO hr1 rfl mO kO bO .nil ak (a8 (pv 0) (a8 ac a9))))) (aj (am cQ)) au)
  (af (aP (aE bY (aw aq (pv 0) ac fun _ _=>rfl) aY (aA _)) (aj (am (c9 (ai gS hr rfl mS kS bS .nil ak (a8 (aw aq (pv 0) ac fun _ _=>rfl) a9)) (cF (ai gF hr4 rfl mF kF bF .nil ak (a8 (aw aq (pv 0) ac fun _ _=>rfl) a9)))))) au)
  eF)),?_⟩
 obtain ⟨r,y,z,rfl,g,hy,hz⟩:=at3 hv
 refine ⟨_,rfl,r,_,2,rfl,g,_,rfl,iteF ?_⟩
 refine ⟨_,rfl,r,_,3,rfl,g,_,rfl,iteF ?_⟩
 refine ⟨_,rfl,r,_,0,_,rfl,rfl,SqT.of g,rfl,rfl,_,rfl,if_t (decide_eq_true rfl) ?_⟩
 refine ⟨_,rfl,r,_,1,_,rfl,rfl,SqT.of g,rfl,y,us,rfl,hy,by have:=hs.len;omega,hs.asc,fun u m=>⟨(hs.gq u m).mono (by decide),⟨(hs.ln u m).1,by have:=(hs.ln u m).2;omega⟩,hs.nz u m⟩,fun H1 s1=>⟨_,rfl,iteT ?_⟩⟩
 exact ⟨_,rfl,r,_,2,_,rfl,rfl,SqT.of (s1 _ _ g),rfl,z,p,rfl,hz.mono (Kd.of_same s1),hg.mono (by decide),hsh,fun H2 s2=>k _ (s1.trans s2)⟩
theorem scWq:aD ["thing"] ["thing"] (ah sWsQ):=⟨rfl,rfl,rfl,by decide +kernel,rfl,by decide +kernel,by decide +kernel⟩
theorem yx {f fO fA:Addr} {fd dO dA:FuncData} (F:Fun K "is_wish" "is_wish" sWsQ f fd)
 (gO:FnOk P w K mg base CX0 1 fO dO ["thing","count"] spTo) (kO:PySem.W.keepIn K (.ref fO)=true) (bO:Binds K dO ["thing","count"] []) (mO:mg "is_tuple_of"=some (.ref fO))
 (gA:FnOk P w K mg base CX0 20 fA dA ["thing"] spAq) (kA:PySem.W.keepIn K (.ref fA)=true) (bA:Binds K dA ["thing"] []) (mA:mg "is_atom"=some (.ref fA)):FnOk P w K mg base CX0 21 f fd ["thing"] spAq:=by
 refine F.ok scWq (fun vs H Q E h=> ?_) (fun cdv A outer s H vs Q E hr h=> ?_)
 · obtain ⟨v,us,p,rfl,_⟩:=h
   rfl
 obtain ⟨v,us,p,rfl,hv,hs,hg,hsh,k⟩:=h
 have hr1:Room 1 _:=hr.mono (by decide)
 refine ⟨_,af (aP (cj (bf (ai gO hr1 rfl mO kO bO .nil ak (a8 (pv 0) (a8 ac a9))))) (aj (am (ai gA hr rfl mA kA bA .nil ak (a8 (pv 0) a9)))) au) eF,?_⟩
 obtain ⟨r,y,z,rfl,g,hy,hz⟩:=at3 hv
 refine ⟨_,rfl,r,_,2,rfl,g,_,rfl,iteT ?_⟩
 exact ⟨_,rfl,_,us,p,rfl,hv,hs,hg,hsh,k⟩
def kz (K:PySem.W.Frag):Sp:=fun vs H Q _=>∃(a:Addr) (x y:Int),vs= [.ref a]∧SqT K H a [.int x, .int y]∧Q (.int (sgn x)) H
theorem scSi:aD ["one"] ["one"] (ah jN):=⟨rfl,rfl,rfl,by decide +kernel,rfl,by decide +kernel,by decide +kernel⟩
theorem vo {f:Addr} {fd:FuncData} (F:Fun K "sign_of" "sign_of" jN f fd):FnOk P w K mg base CX0 1 f fd ["one"] (kz K):=by
 refine F.ok scSi (fun vs H Q E h=> ?_) (fun cdv A outer s H vs Q E hr h=> ?_)
 · obtain ⟨a,x,y,rfl,_⟩:=h
   rfl
 obtain ⟨a,x,y,rfl,g,k⟩:=h
 refine ⟨_,af (aP (aE pA (aw aq (pv 0) ac fun _ _=>rfl) ac (aA _)) (aj (am (cW cq ac))) au)
  (aj (am (mh (aE gh (aw aq (pv 0) ac fun _ _=>rfl) ac (aA _)) ac ac))),?_⟩
 refine ⟨_,rfl,a,_,0,_,rfl,rfl,g,rfl,_,_,rfl,rfl,_,rfl,?_⟩
 unfold sgn at k
 by_cases h1:x < 0
 · rw [if_pos h1] at k
   refine if_t (decide_eq_true h1) ?_
   exact ⟨_,rfl,k⟩
 · rw [if_neg h1] at k
   refine if_f (decide_eq_false h1) ?_
   refine ⟨_,rfl,a,_,0,_,rfl,rfl,g,rfl,_,_,rfl,rfl,_,rfl,?_⟩
   by_cases h2:0 < x
   · rw [if_pos h2] at k
     exact if_t (decide_eq_true h2) k
   · rw [if_neg h2] at k
     exact if_f (decide_eq_false h2) k
def spIp:Sp:=fun vs H Q _=>∃(v:V) (d:Pd) (_ _ _:Nat),vs= [v]∧TrAt H v (pdT d)∧PdOk 63 600 900 900 d∧∀H',Same H H'→Q (.bl (decide (0 < d.2.2.1.1))) H'
theorem scIp:aD ["thing","atom","truth","weight"] ["thing"] (ah sPtQ):=⟨rfl,rfl,rfl,by decide +kernel,rfl,by decide +kernel,by decide +kernel⟩
theorem yI {f fO fW fF fS:Addr} {fd dO dW dF dS:FuncData} (F:Fun K "is_part" "is_part" sPtQ f fd) (B:Blt mg)
 (gO:FnOk P w K mg base CX0 1 fO dO ["thing","count"] spTo) (kO:PySem.W.keepIn K (.ref fO)=true) (bO:Binds K dO ["thing","count"] []) (mO:mg "is_tuple_of"=some (.ref fO))
 (gW:FnOk P w K mg base CX0 21 fW dW ["thing"] spAq) (kW:PySem.W.keepIn K (.ref fW)=true) (bW:Binds K dW ["thing"] []) (mW:mg "is_wish"=some (.ref fW))
 (gF:FnOk P w K mg base CX0 4 fF dF ["thing"] spFq) (kF:PySem.W.keepIn K (.ref fF)=true) (bF:Binds K dF ["thing"] []) (mF:mg "is_fraction"=some (.ref fF))
 (gS:FnOk P w K mg base CX0 1 fS dS ["one"] (kz K)) (kS:PySem.W.keepIn K (.ref fS)=true) (bS:Binds K dS ["one"] []) (mS:mg "sign_of"=some (.ref fS)):FnOk P w K mg base CX0 22 f fd ["thing"] spIp:=by
 refine F.ok scIp (fun vs H Q E h=> ?_) (fun cdv A outer s H vs Q E hr h=> ?_)
 · obtain ⟨v,d,_,_,_,rfl,_⟩:=h
   rfl
 obtain ⟨v,⟨us,ff,wt,b⟩,_,_,_,rfl,hv,ho,k⟩:=h
 have ho:PtOk 63 600 900 900 us ff wt:=ho
 have hr1:Room 1 _:=hr.mono (by decide)
 have hr4:Room 4 _:=hr.mono (by decide)
 refine ⟨_,af (aP (cj (bf (ai gO hr1 rfl mO kO bO .nil ak (a8 (pv 0) (a8 ac a9))))) (aj (am cQ)) au)
  (af (fk (pv 0) (cw rfl (aI (ax (i:=1) scIp.nd rfl (Or.inl rfl)) (aI (ax (i:=2) scIp.nd rfl (Or.inl rfl)) (aI (ax (i:=3) scIp.nd rfl (Or.inl rfl)) ci)))))
  (af (aP (PW.pt (cP (cj (bf (ai gW hr rfl mW kW bW .nil ak (a8 (pv 1) a9)))) (cP (aE mr (aw aq (pv 1) ac fun _ _=>rfl) aY (aA _)) (cR (cj (bf (ar (r:=rIsi K) aX rfl B.isi ao (a8 (pv 2) (a8 (bh (v:= .ty "bool") rfl B.bo PyProof.Rows.boot_bool rfl) a9))))))))) (aj (am cQ)) au)
  (aj (am (c9 (ai gF hr4 rfl mF kF bF .nil ak (a8 (pv 3) a9)) (cF (bJ gh (ai gS hr1 rfl mS kS bS .nil ak (a8 (pv 3) a9)) ac (aA _)))))))),?_⟩
 have hv':TrAt H v (ptT us ff wt b):=hv
 obtain ⟨r,a,ru,rf,rw',rfl,h1,ha,hu,hrf,hrw⟩:=pc hv'
 refine ⟨_,rfl,r,_,3,rfl,h1,_,rfl,iteF ?_⟩
 refine ⟨_,rfl,r,_,rfl,SqT.of h1,rfl,_,_,rfl,_,_,rfl,_,_,rfl,rfl,?_⟩
 have hat:TrAt H (.ref a) (moT us ff):=aU ha (.cons cU (.cons hu (.cons (aK hrf) .nil)))
 refine ⟨_,rfl, .ref a,us,ff,rfl,hat,ho.us,ho.gf,ho.sf,fun H1 s1=>⟨_,rfl,iteF ?_⟩⟩
 refine ⟨_,rfl,a,_,0,_,rfl,rfl,SqT.of (s1 _ _ ha),rfl,rfl,_,rfl,if_f (by rw [decide_eq_true rfl];rfl) ?_⟩
 refine ⟨_,rfl, .bl b, .ty "bool", .type "bool",true,rfl, .of (.bl b), .inl ⟨rfl,xM K⟩,_,rfl,iteF ?_⟩
 refine ⟨_,rfl, .ref rw',wt,rfl,aK (s1 _ _ hrw),ho.gw.mono (by decide),ho.sw,fun H2 s2=>⟨_,rfl,iteT ?_⟩⟩
 refine ⟨_,rfl,rw',wt.1,wt.2,rfl,SqT.of (s2 _ _ (s1 _ _ hrw)),_,_,rfl,rfl,?_⟩
 have e:decide ((0:Int) < sgn wt.1)=decide (0 < wt.1):=by
  unfold sgn
  by_cases h1:wt.1 < 0
  · rw [if_pos h1,decide_eq_false (by omega),decide_eq_false (by omega)]
  · rw [if_neg h1]
    by_cases h2:0 < wt.1
    · rw [if_pos h2,decide_eq_true h2]
      rfl
    · rw [if_neg h2,decide_eq_false h2]
      rfl
 show Q (.bl (decide ((0:Int) < sgn wt.1))) H2
 rw [e]
 exact k _ (s1.trans s2)
noncomputable def okD (ds:List Pd):Bool:= !ds.isEmpty&&ds.all fun d=>decide (0 < d.2.2.1.1)
def sp1:Sp:=fun vs H Q _=>∃(v:V) (ds:List Pd),vs= [.str (Str.ofString "sum"),v]∧TrAt H v (.tup (ds.map pdT))∧ds.length≤16∧(∀d∈ds,PdOk 63 600 900 900 d)∧∀H',Same H H'→Q (.bl (okD ds)) H'
theorem sc1:aD ["kind","inner"] ["kind","inner"] (ah sSt1):=⟨rfl,rfl,rfl,by decide +kernel,rfl,by decide +kernel,by decide +kernel⟩
theorem ok_1 {f fI:Addr} {fd dI:FuncData} (F:Fun K "is_step_of_one" "is_step_of_one" sSt1 f fd) (B:Blt mg)
 (gI:FnOk P w K mg base CX0 22 fI dI ["thing"] spIp) (kI:PySem.W.keepIn K (.ref fI)=true) (bI:Binds K dI ["thing"] []) (mI:mg "is_part"=some (.ref fI)):FnOk P w K mg base CX0 23 f fd ["kind","inner"] sp1:=by
 refine F.ok sc1 (fun vs H Q E h=> ?_) (fun cdv A outer s H vs Q E hr h=> ?_)
 · obtain ⟨v,ds,rfl,_⟩:=h
   rfl
 obtain ⟨v,ds,rfl,hv,d16,ho,k⟩:=h
 refine ⟨_,af (aP (aE bY (pv 0) aY (aA _)) eF au)
  (af (aP (aE bY (pv 0) aY (aA _)) (aj (am (c9 (ar (r:=rIsi K) aX rfl B.isi ao (a8 (pv 1) (a8 (bh (v:= .ty "tuple") rfl B.tu PyProof.Rows.boot_tuple rfl) a9))) (c9 (bJ gh (ar bp rfl B.le PySem.boot_len (a8 (pv 1) a9)) ac (aA _))
   (cF (ar (eX rfl) rfl B.al PyProof.Rows.boot_all (a8 (bZ (NC:= ["part"]) (mp:= [none]) rfl (cL (pv 1)) (fun _ _ _ _ _=>ax (i:=0) (by simp) rfl (Or.inl rfl)) (fun _ _ _ _ _=>bw) (fun _ _ _ _ _=>ai gI hr rfl mI kI bI .nil ak (a8 (pv 0) a9))) a9))))))) au) eF),?_⟩
 have hL20:(20000:Nat)≤sizeLine:=by decide +kernel
 obtain ⟨r,xs,rfl,g,hxs⟩:=at_t hv
 have xl:=hxs.len
 rw [yW] at xl
 refine ⟨_,rfl,rfl,_,rfl,if_f (decide_eq_false (nst (by decide +kernel))) ?_⟩
 refine ⟨_,rfl,rfl,_,rfl,if_t (decide_eq_true rfl) ?_⟩
 refine ⟨_,rfl, .ref r, .ty "tuple", .type "tuple",true,rfl, .of (.tup g), .inl ⟨rfl,lx K⟩,_,rfl,iteT ?_⟩
 refine ⟨_,rfl,r,xs,rfl, .inr (SqT.of g),_,_,rfl,rfl,_,rfl,?_⟩
 by_cases z:ds= []
 · subst z
   refine if_f (decide_eq_false (by rw [xl];decide)) ?_
   exact k _ (Same.refl _)
 have dpos:0 < ds.length:=List.length_pos_iff.mpr z
 refine if_t (decide_eq_true (by omega)) ?_
 refine ko ?_
 refine cJ (rest:= []) rfl ?_
 refine ⟨_,rfl,r,rfl,⟨xs,SqT.of g⟩,fun L nL=> ?_⟩
 refine dy (xs:=xs) (fun i acc H'=>Same H H'∧H' L=some (.lst acc)∧acc=((ds.take i).map fun d=>decide (0 < d.2.2.1.1)).map V.bl) ⟨ae nL,aa,rfl⟩ (fun i acc H' p=>SqT.of (p.1 _ _ g)) ?_ ?_
 · rintro i z acc H' hi ez ⟨sH,hL,rfl⟩
   obtain ⟨t',et,ht'⟩:=(hxs.mono (Kd.of_same sH)).get' ez
   rw [zF] at et
   obtain ⟨d,ed,rfl⟩:=zH.mp et
   refine ⟨_,rfl,z,d,0,0,0,rfl,ht',ho d (z7 ed),fun H6 s6=> ?_⟩
   refine CompN.mk hi (by rw [yW,yW,zm];omega) (s6 _ _ hL) ⟨br nL (sH.trans s6),aa,?_⟩
   rw [be ed,zh,zh]
   rfl
 · rintro acc H' ⟨sH,hL,rfl⟩
   rw [xl,zL] at hL
   refine ⟨L,_,rfl,SqL.of hL,?_⟩
   have e:((ds.map fun d=>decide (0 < d.2.2.1.1)).all id)=okD ds:=by
    unfold okD
    rw [show ds.isEmpty=false by simpa using z,List.all_map]
    rfl
   rw [e]
   exact k H' sH
theorem yj:aD ["thing"] ["thing"] (ah sStp):=⟨rfl,rfl,rfl,by decide +kernel,rfl,by decide +kernel,by decide +kernel⟩
noncomputable def smT (ds:List Pd):Tr:= .tup [s_ "sum", .tup (ds.map pdT)]
def rN:Sp:=fun vs H Q _=>∃(v:V) (ds:List Pd),vs= [v]∧TrAt H v (smT ds)∧ds.length≤16∧(∀d∈ds,PdOk 63 600 900 900 d)∧∀H',Same H H'→Q (.bl (okD ds)) H'
theorem xw {f fO f1:Addr} {fd dO d1:FuncData} (F:Fun K "is_step" "is_step" sStp f fd)
 (gO:FnOk P w K mg base CX0 1 fO dO ["thing","count"] spTo) (kO:PySem.W.keepIn K (.ref fO)=true) (bO:Binds K dO ["thing","count"] []) (mO:mg "is_tuple_of"=some (.ref fO))
 (g1:FnOk P w K mg base CX0 23 f1 d1 ["kind","inner"] sp1) (k1:PySem.W.keepIn K (.ref f1)=true) (b1:Binds K d1 ["kind","inner"] []) (m1:mg "is_step_of_one"=some (.ref f1)):FnOk P w K mg base CX0 24 f fd ["thing"] rN:=by
 refine F.ok yj (fun vs H Q E h=> ?_) (fun cdv A outer s H vs Q E hr h=> ?_)
 · obtain ⟨v,ds,rfl,_⟩:=h
   rfl
 obtain ⟨v,ds,rfl,hv,d16,ho,k⟩:=h
 have hr1:Room 1 _:=hr.mono (by decide)
 refine ⟨_,af (aP (bf (ai gO hr1 rfl mO kO bO .nil ak (a8 (pv 0) (a8 ac a9)))) (aj (am (ai g1 hr rfl m1 k1 b1 .nil ak (a8 (aw aq (pv 0) ac fun _ _=>rfl) (a8 (aw aq (pv 0) ac fun _ _=>rfl) a9))))) au) eF,?_⟩
 obtain ⟨r,y,rfl,g,hy⟩:=at2 hv
 refine ⟨_,rfl,r,_,2,rfl,g,_,rfl,if_t (decide_eq_true rfl) ?_⟩
 exact ⟨_,rfl,r,_,0,_,rfl,rfl,SqT.of g,rfl,_,rfl,r,_,1,_,rfl,rfl,SqT.of g,rfl,y,ds,rfl,hy,d16,ho,k⟩
end
open PySem L2 Mth Tre Wd Dj Su
noncomputable def atT (d:Pd):Tr:=moT d.1 d.2.1
noncomputable def ltD (d:Pd):Tr:= .tup [atT d, .bl (!d.2.2.2)]
noncomputable def lits (ds:List Pd):List Tr:=ds.map ltD
theorem e5 {n:Nat} {ts:List Tr} (h:∀t∈ts,t.depth≤n):(Tr.tup ts).depth≤n+1:=by
 have:=cT h
 simp only [Tr.depth]
 omega
theorem pZ {s e g ew:Nat} {d:Pd} (h:PdOk s e g ew d):Ty .ws (atT d)∧(atT d).depth≤10:=by
 refine ⟨.mo _ _ (fun p m=> ?_) (.fr _ _),e5 fun t m=> ?_⟩
 · obtain ⟨q,mq,rfl⟩:=zx.mp m
   exact (h.us.gq q mq).pr.1
 · simp only [zc,zv,or_false] at m
   rcases m with rfl|rfl|rfl
   · simp [Tr.depth]
   · refine e5 fun t m=> ?_
     obtain ⟨q,mq,rfl⟩:=zx.mp m
     exact (h.us.gq q mq).pr.2
   · simp [frT,Tr.depth,Trs.depth]
theorem tM {s e g ew:Nat} {d:Pd} (h:PdOk s e g ew d):Ty .lt (ltD d)∧(ltD d).depth≤11:=by
 refine ⟨.lt _ _ (pZ h).1,e5 fun t m=> ?_⟩
 simp only [zc,zv,or_false] at m
 rcases m with rfl|rfl
 · exact (pZ h).2
 · simp [Tr.depth]
noncomputable def adjB (us:List Tr):List Bool:=List.zipWith eqT us (us.drop 1)
theorem uI:∀ {us:List Tr},(∀t∈us,Ty .ws t)→us.Pairwise (fun a b=>ltT b a=false)→((adjB us).any id=false↔us.Nodup)
 | [],_,_=>by simp [adjB]
 | [a],_,_=>by simp [adjB]
 |a::b::r,ty,pw=>by
  have p1:=Aa.mp pw
  have ih:=uI (us:=b::r) (fun t m=>ty t (z6 _ m)) p1.2
  have e:adjB (a::b::r)=eqT a b::adjB (b::r):=rfl
  rw [e,List.any_cons,zU,Bool.or_eq_false_iff,ih]
  have key:eqT a b=false↔a∉b::r:=by
   constructor
   · intro h m
     have lt1:=wA (p1.1 b yY) h
     rcases zc.mp m with rfl|m
     · rw [tN] at lt1
       cases lt1
     · have:=(Aa.mp p1.2).1 a m
       rw [lt1] at this
       cases this
   · intro h
     cases q:eqT a b with
     |false=>rfl
     |true=>
      have:=iQ (ty a yY) (ty b (by simp)) q
      exact absurd (by rw [this];exact yY) h
  exact and_congr key Iff.rfl
theorem wd (us:List Tr):(adjB us).length=us.length - 1:=by
 unfold adjB
 rw [List.length_zipWith,zI]
 omega
theorem we {us:List Tr} {i:Nat} {u z:Tr} (h1:us[i]?=some u) (h2:us[1+i]?=some z):(adjB us)[i]?=some (eqT u z):=by
 unfold adjB
 rw [List.getElem?_zipWith,h1,List.getElem?_drop,h2]
theorem x6 {us:List Tr} (h:∀(i j:Nat) (t u:Tr),i≤j→us[i]?=some t→us[j]?=some u→ltT u t=false):us.Pairwise (fun a b=>ltT b a=false):=by
 refine List.pairwise_iff_getElem.mpr fun i j hi hj hij=> ?_
 exact h i j _ _ (by omega) (yX hi) (yX hj)
noncomputable def prs (ds:List Pd):List Pq:=ds.flatMap fun d=>d.1.map (ge (sgD d))
theorem l7 (a b:List Pd):prs (a++b)=prs a++prs b:=by
 unfold prs
 rw [List.flatMap_append]
theorem l6 (d:Pd):prs [d]=d.1.map (ge (sgD d)):=by
 unfold prs
 simp
theorem pe (ds:List Pd):(prs ds).length=nps ds:=by
 induction ds with
 |nil=>rfl
 |cons d r ih=>
  have e1:=l7 [d] r
  rw [l6] at e1
  have e2:nps (d::r)=d.1.length+nps r:=by simp [nps]
  have e3:prs (d::r)=_:=e1
  rw [e2,e3,z9,yW,ih]
theorem oR {s e g ew:Nat} (t:Tr):∀ {ds:List Pd},(∀d∈ds,PdOk s e g ew d)→tot t (prs ds)=twt t ds
 | [],_=>rfl
 |d::r,h=>by
  have e1:=l7 [d] r
  rw [l6] at e1
  have hd:=h d yY
  rw [show d::r= [d]++r from rfl,e1,dQ,jG t (q:=sgD d) (io hd.sw) fun p m=>(hd.us.gq p m).sh,oR t fun x m=>h x (z6 _ m)]
  rfl
theorem uV {p:Fr} (h:Sh p):rv (negF p)= -rv p:=by
 show ((-p.1:Int):Rat) / ((p.2:Int):Rat)= -((p.1:Rat) / (p.2:Rat))
 rw [Rat.intCast_neg]
 grind
theorem rY {wt:Fr} (h:Sh wt):negF wt=sgF false wt:=iB (rX h) (io h) (by rw [uV h,rZ h];rfl)
theorem wG {ew:Nat} {b:Bool} {wt:Fr} (g:Gf ew wt) (h:Sh wt):Gf ew (sgF b wt):=by
 cases b
 · rw [←rY h]
   exact ue g
 · exact g
theorem se {p:Fr} (h:0 < p.2):p.1≤0↔rv p≤0:=by
 have:=wp (p:=p) (q:=zero) h (by decide)
 rw [rv_zero] at this
 rw [←this]
 show p.1≤0↔p.1*1≤0*p.2
 omega
theorem si {p:Fr} (h:0 < p.2):0≤p.1↔0≤rv p:=by
 have:=wp (p:=zero) (q:=p) (by decide) h
 rw [rv_zero] at this
 rw [←this]
 show 0≤p.1↔0*p.2≤p.1*1
 omega
def Gd (ds:List Pd):Prop:=(ds.map atT).Nodup∧(∀t,twt t ds=0)∧(tbd ds < 0∨(tbd ds=0∧∃d∈ds,d.2.2.2=false))
theorem lP {ds:List Pd} {as:List Pq} (ha:Asc as) (hs:∀p∈as,Sh p.2∧p.2≠zero) (ht:∀t,tot t as=twt t ds):as= []↔∀t,twt t ds=0:=by
 constructor
 · rintro rfl t
   rw [←ht t]
   rfl
 · intro h
   cases as with
   |nil=>rfl
   |cons p r=>
    have e:=eA ha (p:=p) yY
    rw [ht,h] at e
    exact absurd ((lW (hs p yY).1).mp e.symm) (hs p yY).2
theorem any_false {ds:List Pd}:(ds.any fun d=> !d.2.2.2)=true↔∃d∈ds,d.2.2.2=false:=by
 rw [Af]
 constructor
 · rintro ⟨d,m,h⟩
   exact ⟨d,m,by simpa using h⟩
 · rintro ⟨d,m,h⟩
   exact ⟨d,m,by simpa using h⟩
structure Bn (s n e g ew:Nat) (ds:List Pd):Prop where
 ok:∀d∈ds,PdOk s e g ew d
 len:ds.length≤6
 nn:nps ds≤n
 n64:n < 64
 n8:n*(e+ew+1)≤8000
 s64:s < 64
 s8:s*(e+ew+3)≤8000
 l8:6*(e+ew+3)+1≤8000
 g8:6*(g+ew+3)+1≤8000
 e6:e≤600
 g9:g≤900
 w9:ew≤900
end K25
namespace L2
open PySem PySem.Spec PyProof.Rows Zp
section
variable {X:Cx}
end
end L2
namespace L2
section
open PySem
variable {prog:Program} {w:World} {A:Around} {R:Result→Shared→Prop} {s:Shared}
end
open PySem PySem.Spec PyProof.Rows
section
variable {X:Cx} {pins:List (Addr×Obj)} {σ:St} {H:Hp} {s:Shared}
variable {kx vx target iter:Expr} {ifs:List Expr} {scope:Scope} {NC:List Str} {mp:List (Option Nat)} {pos:Pos} {wi:TI} {g:TG} {tc:TT} {tk te:TE}
end
end L2
namespace L2
section
open PySem
variable {prog:Program} {w:World} {A:Around} {R:Result→Shared→Prop} {s:Shared}
end
open PySem PySem.Spec PyProof.Rows
section
variable {X:Cx} {pins:List (Addr×Obj)} {σ:St} {H:Hp} {s:Shared}
variable {elt target iter t2 i2:Expr} {scope:Scope} {NC:List Str} {mp:List (Option Nat)} {pos:Pos} {wi:TI} {g:TG} {wi2:TI} {g2:TG} {te:TE}
end
end L2
namespace Dj
open PySem PySem.Spec PySem.W PyProof.Rows L2 Tre
section
variable {prog:Program} {w:World} {A:Around} {E:Value→Shared→Prop} {s:Shared} {d it:Addr} {es:Array DictEntry} {ep:Nat}
end
open PySem PySem.Spec PySem.W PyProof.Rows L2 Tre Srt
section
variable {prog:Program} {w:World} {A:Around} {E:Value→Shared→Prop} {s:Shared} {T:String} {r d:Addr} {n:Nat} {P:Nat→Value→Prop} {OK:Heap→Prop}
end
section
variable {prog:Program} {w:World} {A:Around} {E:Value→Shared→Prop} {s:Shared} {lt:Nat→Nat→Bool} {κ:SortKind}
theorem qm {l:Addr} {vs:List Value} {Q:Value→Shared→Prop} (O:Ord lt) (h64:vs.length < 64)
 (hcol:∀Q':List Value→Shared→Prop,(∀h' tk,(∀b o,s.heap.get? b=some o→h'.get? b=some o)→s.heap.objs.size < h'.objs.size→Q' vs {s with heap:=h',toks:=tk})→wpAny (model prog w) A.in1 (collect (.ref l)) Q' E s)
 (hkind:2≤vs.length→∀h' tk,(∀b o,s.heap.get? b=some o→h'.get? b=some o)→∀(E':Value→Shared→Prop) (R:SortKind→Shared→Prop),R κ {s with heap:=h',toks:=tk}→wpAny (model prog w) A.in1.in1 (keyKind' vs.toArray) R E' {s with heap:=h',toks:=tk})
 (hask:∀h' tk,(∀b o,s.heap.get? b=some o→h'.get? b=some o)→∀i j (R:Bool→Shared→Prop),i < vs.length→j < vs.length→R (lt i j) {s with heap:=h',toks:=tk}→kas_ask prog w A.in1.in1 κ vs i j R {s with heap:=h',toks:=tk})
 (h:∀p:Array Nat,Pm vs.length p→Up lt p vs.length→∀h' tk D e,(∀b o,s.heap.get? b=some o→h'.get? b=some o)→s.heap.objs.size≤D→h'.get? D=some (seqObj "list" (List.toArray (p.toList.map fun i=>vs.getD i Value.none)) e)→Q (.ref D) {s with heap:=h',toks:=tk}):
 wpAny (model prog w) A (call (.builtin "sorted") [.ref l]) Q E s:=by
 refine Calls.call_function_entry kind_sorted plain_sorted entry_sorted (args_sorted1 _) ?_
 unfold Builtin.«sorted»
 refine wpAny_bind (m:=checkCount "sorted" 1 1 _) (wpAny_pure (wpAny_bind (hcol _ fun h1 tk k1 sz=> ?_)))
 refine wpAny_bind (wpAny_newList (s:= {s with heap:=h1,toks:=tk}) ?_ (by rw [sizeLine_eq];omega))
 have hoL:(h1.push (seqObj "list" vs.toArray 0)).get? h1.objs.size=some (seqObj "list" vs.toArray 0):=Heap.get?_push_size _ rfl
 have keep:∀b o,s.heap.get? b=some o→(h1.push (seqObj "list" vs.toArray 0)).get? b=some o∧b≠h1.objs.size:=fun b o q=>⟨Heap.get?_push_of_some _ (k1 b o q),zg (Heap.lt_size (k1 b o q))⟩
 show wpAny _ _ _ _ _ {s with heap:=h1.push (seqObj "list" vs.toArray 0),toks:=tk}
 refine wpAny_bind (wpAny_holding (wpAny_call_entry slot_list_sort ⟨_,hoL,rfl⟩ entry_list_sort (gj (s:= {s with heap:=h1.push (seqObj "list" vs.toArray 0),toks:=tk}) (lt:=lt) (κ:=κ) O hoL h64 (fun h2 h' st R hR=>hkind h2 h' tk (fun b o e=>st b o (keep b o e).2 (keep b o e).1) _ R hR)
  (fun h' st i j R hi hj hR=>hask h' tk (fun b o e=>st b o (keep b o e).2 (keep b o e).1) i j R hi hj hR) fun p a1 a2=>⟨_,rfl,?_⟩) (args_list_sort _)))
 obtain ⟨e,he⟩:=sortedHeap_at (out:=List.toArray (p.toList.map fun i=>vs.getD i Value.none)) hoL
 refine wpAny_pure ⟨_,rfl,h p a1 a2 _ tk _ e (fun b o q=> ?_) (Nat.le_of_lt sz) he⟩
 rw [sortedHeap_old (keep b o q).2 (Heap.lt_size (keep b o q).1)]
 exact (keep b o q).1
end
theorem pH {prog:Program} {w:World} {A:Around} {s:Shared} {fin:Bool} {Q:Bool→Shared→Prop}:∀ {as bs:List Value} {q:List (Bool×Bool)} {i:Nat},0 < i→cY A s as bs q→Q (lexV fin q) s→KatLex prog w A true fin Q (as.zip bs) i s
 | [],_,q,i,_,h,hq=>by
  unfold cY at h
  subst h
  rw [List.zip_nil_left]
  exact kat_nil hq
 |_::_,[],q,i,_,h,hq=>by
  unfold cY at h
  subst h
  rw [List.zip_nil_right]
  exact kat_nil hq
 |a::as,b::bs,[],i,_,h,hq=>h.elim
 |a::as,b::bs,(e,l)::q,i,h0,h,hq=>by
  obtain ⟨h1,h2,h3⟩:=h
  rw [A9]
  refine kat_cons (h1 prog w _ _ ?_)
  cases e with
  |true=>exact kat_yes (pH (by omega) (h3 rfl) hq)
  |false=>
   refine kat_no ?_
   have e0:(true&&i==0)=false:=by
    cases i with
    |zero=>omega
    |succ i=>rfl
   rw [e0]
   exact kat_one a b (h2 rfl prog w _ _ hq)
theorem vJ {prog:Program} {w:World} {A:Around} {s:Shared} {fin:Bool} {Q:Bool→Shared→Prop} {x y:Str} {t u:Tok} {as bs:List Value} {q:List (Bool×Bool)} (h:cY A s as bs q)
 (hq:Q (lexV fin ((x==y,decide (x.cps.toList < y.cps.toList))::q)) s):KatLex prog w A true fin Q ((Value.str x t::as).zip (Value.str y u::bs)) 0 s:=by
 rw [A9]
 refine kat_cons (SeqAt.EqAt.str_str x t y u prog w _ _ ?_)
 cases e:(x==y) with
 |true=>
  rw [e] at hq
  exact kat_yes (pH (by decide) h hq)
 |false=>
  rw [e] at hq
  refine kat_no ?_
  exact oneLt_str hq
def Hs (t:Tr):Prop:=∃x r,t= .tup (.str x::r)
section
variable {X:Cx} {pins:List (Addr×Obj)} {σ:L2.St} {H:Hp} {s:Shared}
theorem pI (I:Inv X pins σ H s):∀ {vs:List V} {ts:List Tr} {as:List Value},TrsAt H vs ts→Vals vs as→(∀t∈ts,Hs t)→∃fs,KatTups s.heap as fs∧fs.length=as.length∧∀v∈fs,∃(x:Str) (t:Tok),v= .str x t
 |vs,[],as,h,r,_=>by
  unfold TrsAt at h
  subst h
  cases r
  exact ⟨[], .nil,rfl,fun v m=>by cases m⟩
 |vs,t::ts,as,h,r,hh=>by
  obtain ⟨v,vr,rfl,h1,h2⟩:=h.inv
  cases r with
  |cons r1 r2=>
   obtain ⟨fs,f1,f2,f3⟩:=pI I h2 r2 fun u m=>hh u (z6 _ m)
   obtain ⟨x,rr,rfl⟩:=hh t yY
   unfold TrAt at h1
   obtain ⟨a,ws,rfl,g,k⟩:=h1
   cases r1
   obtain ⟨y,yr,rfl,k1,k2⟩:=k.inv
   unfold TrAt at k1
   subst k1
   obtain ⟨bs,o,n,q1,ho,hc,hd⟩:=eY I g
   cases q1 with
   |cons q1 q2=>
    obtain ⟨tk,rfl⟩:=q1
    refine ⟨_,KatTups.cons ho hc hd rfl f1,by simp [f2],fun v m=> ?_⟩
    rcases zc.mp m with e|m
    · exact ⟨x,tk,e⟩
    · exact f3 v m
end
end Dj
namespace L2
open PySem PySem.Spec PyProof.Rows
section
variable {X:Cx}
end
section
variable {X:Cx}
end
end L2
namespace Trm
open PySem
def cl (x:Str):List Nat:=x.cps.toList
end Trm
namespace L2
open PySem PySem.Spec PyProof.Rows
section
variable {X:Cx}
end
end L2
namespace Dj
open PySem PySem.Spec PySem.W PyProof.Rows L2 Tre Srt
section
variable {X:Cx} {pins:List (Addr×Obj)} {σ:L2.St} {H:Hp} {s:Shared}
def SrQ (H:Hp) (ts:List Tr) (Q:VK):Prop:=∀(D:Addr) (ws:List V) (us:List Tr),H D=none→us.Perm ts→TrsAt H ws us→(∀(i j:Nat) (t u:Tr),i≤j→us[i]?=some t→us[j]?=some u→ltT u t=false)→Q (.ref D) (upd H D (.lst ws))
theorem lV {Q:VK} {a:Addr} {as:List Value} {vs:List V} {ts:List Tr} (hu:X.A.units+60 < cLine) (I:Inv X pins σ H s) (rv:Vals vs as) (hT:TrsAt H vs ts) (hlen:ts.length < 64) (hts:∀t∈ts,Hs t∧t.pure∧t.depth≤40) (hcm:∀t∈ts,∀u∈ts,Cm t u)
 (hcol:∀(E:Value→Shared→Prop) (Q':List Value→Shared→Prop),(∀h' tk,(∀b o,s.heap.get? b=some o→h'.get? b=some o)→s.heap.objs.size < h'.objs.size→Q' as {s with heap:=h',toks:=tk})→wpAny (model X.prog X.w) X.A.in1 (collect (.ref a)) Q' E s)
 (q:SrQ H ts Q):wpAny (model X.prog X.w) X.A (call (.builtin "sorted") [.ref a]) (EP X pins σ Q) X.xe s:=by
 have l1:=hT.len
 have l2:=rv.length
 have O:Srt.Ord fun i j=>ltT (ts.getD i .non) (ts.getD j .non):=⟨fun a b h=>hW h,fun a b c h1 h2=>tO h1 h2⟩
 have at_:∀i,i < as.length→∃t v a,ts.getD i .non=t∧t∈ts∧TrAt H v t∧RelV v a∧as.getD i Value.none=a:=fun i hi=>by
  have hi':i < ts.length:=by omega
  obtain ⟨v,e1,e2⟩:=hT.get (i:=i) (t:=ts[i]) (yX hi')
  obtain ⟨a,e3,e4⟩:=rv.get e1
  exact ⟨ts[i],v,a,by rw [zK,yX hi'];rfl,List.getElem_mem hi',e2,e4,by rw [zK,e3];rfl⟩
 refine qm (κ:=tuples' true) (vs:=as) O (by omega) (fun Q' hQ'=> ?_) (fun h2 h' tk kp E' R hR=> ?_) (fun h' tk kp i j R hi hj hR=> ?_) fun p hp hup h' tk D e kp sz he=> ?_
 · exact hcol _ Q' hQ'
 · have I':Inv X pins σ H {s with heap:=h',toks:=tk}:=I.kept (t':=tk) kp
   obtain ⟨fs,k1,k2,k3⟩:=pI I' hT rv fun t m=>(hts t m).1
   refine kat_kind (T:=Value.type "str") k1 (by omega) (fun v m=> ?_) (by decide +kernel) ?_
   · obtain ⟨x,t,rfl⟩:=k3 v m
     exact .now
   · rw [show (Value.type "str" !=Value.type "tuple")=true by decide +kernel]
     exact hR
 · have I':Inv X pins σ H {s with heap:=h',toks:=tk}:=I.kept (t':=tk) kp
   obtain ⟨t,v,a,et,mt,ht,ra,ea⟩:=at_ i hi
   obtain ⟨u,v',b,eu,mu,hu',rb,eb⟩:=at_ j hj
   have hc':=hcm t mt u mu
   obtain ⟨⟨x1,r1,rfl⟩,p1,d1⟩:=hts t mt
   obtain ⟨⟨x2,r2,rfl⟩,p2,d2⟩:=hts u mu
   unfold TrAt at ht hu'
   obtain ⟨x0,vs0,rfl,g0,g1⟩:=ht
   obtain ⟨y0,ws0,rfl,g2,g3⟩:=hu'
   cases ra
   cases rb
   obtain ⟨as0,o,n,q3,ho,hcl,hd'⟩:=eY I' g0
   obtain ⟨bs0,o',n',q4,ho',hcl',hd2⟩:=eY I' g2
   have z0:=g1.len
   have z1:=g3.len
   have z2:=q3.length
   have z3:=q4.length
   obtain ⟨y1,yr1,rfl,w1,w2⟩:=g1.inv
   obtain ⟨y2,yr2,rfl,w3,w4⟩:=g3.inv
   unfold TrAt at w1 w3
   subst w1 w3
   cases q3 with
   |cons q3 q3'=>
    cases q4 with
    |cons q4 q4'=>
     obtain ⟨tk1,rfl⟩:=q3
     obtain ⟨tk2,rfl⟩:=q4
     unfold Tr.depth at d1
     unfold Trs.depth at d1
     unfold Tr.pure at p1
     unfold Trs.pure at p1
     unfold kas_ask
     rw [ea,eb]
     refine kat_lt (b:=true) ho hd' ho' hd2 ?_
     rw [List.toList_toArray,List.toList_toArray]
     have hu1:X.A.in1.in1.units+40+1 < cLine:=by show X.A.units+1+1+40+1 < cLine;omega
     have e:∀q,lexV (decide ((Value.str x1 tk1::_).toArray.size < (Value.str x2 tk2::_).toArray.size)) ((x1==x2,decide (x1.cps.toList < x2.cps.toList))::q)=lexV (decide ((Tr.str x1::r1).length < (Tr.str x2::r2).length)) ((x1==x2,decide (x1.cps.toList < x2.cps.toList))::q):=fun q=>by
      rw [z5,z5,←z2,←z3,z0,z1]
     by_cases ex:(x1==x2)=true
     · unfold Cm at hc'
       unfold Cms at hc'
       have hc2:Cms r1 r2:=by
        rcases hc' with ⟨_,c⟩|⟨n,_⟩
        · exact c
        · unfold Tre.eqT at n
          rw [ex] at n
          cases n
       have hx':=lq (A:=X.A.in1.in1) I' hu1 (fun d pp cc a1 a2 b1 b2=>kg I' 40 d pp cc a1 a2 b1 b2 hu1) (by omega) (.inl p1.2) hc2 w2 w4 q3' q4'
       refine vJ hx' ?_
       rw [e]
       have e2:lexV (decide ((Tr.str x1::r1).length < (Tr.str x2::r2).length)) ((x1==x2,decide (x1.cps.toList < x2.cps.toList))::qs r1 r2)=ltT (ts.getD i .non) (ts.getD j .non):=by
        rw [et,eu]
        refine cv ?_
        rw [ltT_iff]
        have el:decide ((Tr.str x1::r1).length < (Tr.str x2::r2).length)=decide (r1.length < r2.length):=by simp
        have e4:=(ku x1 x2).mp ex
        simp only [lexV,ex,if_true,el,j0,Tre.code,Tre.codes,LtC,LtCs,e4]
        constructor
        · intro h;exact .inr ⟨trivial,h⟩
        · rintro (h|h)
          · exact absurd h (List.lt_irrefl _)
          · exact h.2
       rw [e2]
       exact hR
     · have exf:(x1==x2)=false:=by simpa using ex
       rw [A9]
       refine kat_cons (SeqAt.EqAt.str_str x1 tk1 x2 tk2 X.prog X.w _ _ ?_)
       rw [exf]
       refine kat_no ?_
       refine oneLt_str ?_
       have e2:decide (x1.cps.toList < x2.cps.toList)=ltT (ts.getD i .non) (ts.getD j .non):=by
        rw [et,eu]
        refine cv ?_
        rw [ltT_iff,decide_eq_true_iff]
        have ne:x1.cps.toList≠x2.cps.toList:=fun z=>ex ((ku x1 x2).mpr z)
        simp only [Tre.code,Tre.codes,LtC,LtCs,Co.str.injEq]
        constructor
        · intro h;exact .inl h
        · rintro (h|h)
          · exact h
          · exact absurd h.1 ne
       rw [e2]
       exact hR
 · have hin:∀i∈p.toList,i < ts.length:=fun i m=>by
    have:=zN.mp (List.Perm.mem_iff hp |>.mp m)
    omega
   refine ⟨.ref D,upd H D (.lst (p.toList.map fun i=>vs.getD i .non)),I.laid (t':=tk) kp sz ?_,rfl,?_⟩
   · refine ⟨?_,p.toList.map fun i=>as.getD i Value.none,e,Vals.map rv fun i m=>by have:=hin i m;omega,he⟩
     rw [yW,zk,hp.size]
     have:(64:Nat)≤sizeLine:=by decide +kernel
     omega
   · refine q _ _ (p.toList.map fun i=>ts.getD i .non) (I.hok.fresh sz) ?_ (TrsAt.map hT hin) fun i j t u hij e1 e2=> ?_
     · have:=List.Perm.map (fun i=>ts.getD i Tr.non) hp
       rw [show as.length=ts.length by omega,fV] at this
       exact this
     · rw [zF] at e1 e2
       obtain ⟨a,ea,rfl⟩:=zH.mp e1
       obtain ⟨b,eb,rfl⟩:=zH.mp e2
       have hj:j < as.length:=by
        have:=(zd.mp eb).1
        rw [zk,hp.size] at this
        exact this
       have:=hup i j hij hj
       rw [eI,eI,←zP,←zP,ea,eb] at this
       exact this
end
end Dj
namespace Dec
open PySem PySem.NumText
open PySem PySem.NumText L2 Mth
open PySem PySem.NumText L2 Mth
open PySem PySem.NumText L2 Mth
end Dec
namespace Tw
open PySem L2 Tre Wd Mth Dec Su
open PySem PyProof.Rows L2 Tre Wd Mth Dec Su
section
variable {X:Cx} {D:Addr}
end
end Tw
namespace Tw
open PySem L2 Tre Wd Mth Dec Su
end Tw
namespace Fs
section
variable {α:Type}
end
end Fs
namespace Tw
open PySem L2 Tre Wd Mth Dec Su
end Tw
namespace Fm
open PySem L2 Tre Wd Mth Dec Su Tw
end Fm
namespace Dj
open PySem PySem.Spec PySem.W PyProof.Rows L2 Tre Srt
section
variable {X:Cx}
def sv:List V→Hp→VK→Prop:=fun xs H Q=>∃(l:Addr) (vs:List V) (ts:List Tr),xs= [.ref l]∧H l=some (.lst vs)∧TrsAt H vs ts∧ts.length < 64∧(∀t∈ts,Hs t∧t.pure∧t.depth≤40)∧(∀t∈ts,∀u∈ts,Cm t u)∧SrQ H ts Q
theorem lE (hu:X.A.units+60 < cLine):dJ X (.builtin "sorted") sv:=by
 intro pins s σ H xs us Q I r h
 obtain ⟨l,vs,ts,rfl,hl,hT,hlen,hts,hcm,q⟩:=h
 obtain ⟨u,rfl,ru⟩:=eJ r
 cases ru
 obtain ⟨as,rv,pl,_⟩:=I.list (SqL.of hl)
 have l1:=hT.len
 have l2:=rv.length
 have h64:(64:Nat)≤sizeLine:=by decide +kernel
 refine lV hu I rv hT hlen hts hcm (fun E Q' hQ'=> ?_) q
 refine collect_list pl.isList ?_ (by omega)
 have:=hQ' ((s.heap.push (seqObj "list" #[] 0)).update s.heap.objs.size (Obj.mapSeq (· ++as.toArray))) s.toks (fun b o e=> ?_) ?_
 · simpa using this
 · have hlt:b < s.heap.objs.size:=Heap.lt_size e
   rw [Heap.get?_update_ne _ _ _ _ (zg hlt),Heap.get?_push_ne _ _ _ (zg hlt)]
   exact e
 · rw [Heap.size_update,size_push']
   exact Nat.lt_succ_self _
end
end Dj
namespace L2
open PySem
theorem ext3 {o p q:Option V} {r:St}:Ext (none::none::none::r) (o::p::q::r)
 |0,v,e=>by cases (zu (show some (none:Option V)=some (some v) from e))
 |1,v,e=>by cases (zu (show some (none:Option V)=some (some v) from e))
 |2,v,e=>by cases (zu (show some (none:Option V)=some (some v) from e))
 |j+3,v,e=>e
theorem ju {K K':PySem.W.Frag} {a:Addr} {mp:List (Option Nat)} {tl:TE} {te:TE} {Q:VK} {σ rest:L2.St} {H H1:Hp} {xs:List V} (e:subS mp σ=none::none::none::rest)
 (ha:∀Q:VK,Q (.ref a) H1→tl σ H Q) (h1:SqT K H1 a xs)
 (h:∀D,H1 D=none→∃Pv:Nat→List V→Hp→Prop,Pv 0 [] (upd H1 D (.lst []))∧(∀i acc H,Pv i acc H→SqT K H a xs)∧
  (∀i z acc H,i < xs.length→Pv i acc H→xs[i]?=some z→∃T x y u,z= .ref T∧SqT K' H T [x,y,u]∧te (some x::some y::some u::rest) H (CompN xs.length i D acc Pv))∧∀acc H,Pv xs.length acc H→Q (.ref D) H):
 db mp (iTup K tl) (gTup K' 3 (bQ (aV 0) (bQ (aV 1) (bQ (aV 2) gNil)))) cA te σ H Q:=by
 unfold db
 rw [e]
 refine ha _ ⟨a,rfl,⟨xs,h1⟩,fun D nD=> ?_⟩
 refine hide fun q_ e_=> ?_
 obtain ⟨Pv,p0,pq,ps,pd⟩:=h D nD
 subst e_
 refine ⟨fun i m acc H=>m=xs.length - i∧i≤xs.length∧Pv i acc H,⟨xs.length,by simp,zG _,p0⟩,?_⟩
 rintro i m acc H ⟨rfl,hi,p⟩
 have q1:=pq i acc H p
 by_cases hlt:i < xs.length
 · refine .inr ⟨⟨xs,xs[i],q1,by simp [hlt]⟩,?_⟩
   rintro v H' ⟨rfl,y⟩
   have ev:=y xs q1
   refine hide fun q_ e_=> ?_
   obtain ⟨T,x,z,u,rfl,hT,hte⟩:=ps i v acc _ hlt p ev
   subst e_
   exact ⟨T,[x,z,u],rfl,hT,rfl,x,[z,u],rfl,z,[u],rfl,u,[],rfl,rfl,ext3,hte⟩
 · have ei:i=xs.length:=by omega
   subst ei
   exact .inl ⟨⟨xs,q1,yZ _⟩,pd acc H p⟩
end L2
namespace K25
open PySem L2 Mth Tre Wd Dj Su
theorem wV {r:List V→Hp→VK→Prop} {te:TE} {t u:TS} {Z:Ends} {σ:L2.St} {H:Hp} (h:te σ H fun v H1=>r [v] H1 fun x H2=>∃c,x= .bl c∧if c=true then t Z σ H2 else u Z σ H2):tIfS (tB (tCB r (cO te tNil))) t u Z σ H:=h
theorem qW {t:Tr} (h:Ty .ws t):∃ts,t= .tup ts:=by cases h<;>exact ⟨_,rfl⟩
theorem yQ {t:Tr} (h:Ty .ws t):Hs t:=by cases h<;>exact ⟨_,_,rfl⟩
theorem hV {H:Hp} {xs:List V} {ds:List Pd} (h:TrsAt H xs (ds.map pdT)) {i:Nat} {z:V} (e:xs[i]?=some z):∃us ff wt b r a ru rf rw',ds[i]?=some (us,ff,wt,b)∧z= .ref r∧H r=some (.tup [.ref a, .bl b, .ref rw'])∧H a=some (.tup [.str "most", .ref ru, .ref rf])∧TrAt H (.ref ru) (.tup (us.map prT))∧H rf=some (.tup [.int ff.1, .int ff.2])∧H rw'=some (.tup [.int wt.1, .int wt.2]):=by
 obtain ⟨t,et,ht⟩:=h.get' e
 rw [zF] at et
 refine hide fun q_ e_=> ?_
 obtain ⟨⟨us,ff,wt,b⟩,ed,rfl⟩:=zH.mp et
 subst e_
 refine hide fun q_ e_=> ?_
 obtain ⟨r,a,ru,rf,rw',rfl,h1,ha,hu,hrf,hrw⟩:=pc (show TrAt H z (ptT us ff wt b) from ht)
 subst e_
 exact ⟨us,ff,wt,b,r,a,ru,rf,rw',ed,rfl,h1,ha,hu,hrf,hrw⟩
theorem mH {H:Hp} {a ru rf:Addr} {us:List Pq} {ff wt:Fr} {b:Bool} (ha:H a=some (.tup [.str "most", .ref ru, .ref rf])) (hu:TrAt H (.ref ru) (.tup (us.map prT))) (hrf:H rf=some (.tup [.int ff.1, .int ff.2])):TrAt H (.ref a) (atT (us,ff,wt,b)):=aU ha (.cons cU (.cons hu (.cons (aK hrf) .nil)))
def Zt (K:PySem.W.Frag) (H:Hp) (a:Addr) (x:Fr):Prop:=(∀H:Hp,SqT K H a [.int x.1, .int x.2])∨H a=some (.tup [.int x.1, .int x.2])
theorem Zt.sq {K:PySem.W.Frag} {H:Hp} {a:Addr} {x:Fr} (h:Zt K H a x):SqT K H a [.int x.1, .int x.2]:=h.elim (fun q=>q H) SqT.of
theorem Zt.kd {K:PySem.W.Frag} {H H':Hp} {a:Addr} {x:Fr} (h:Zt K H a x) (s:Kd H H'):Zt K H' a x:=h.elim .inl fun q=> .inr (s.tup _ _ q)
section
variable {P:Program} {w:World} {K:PySem.W.Frag} {mg:Str→Option Value} {base:Heap}
def rP (C:Addr):Sp:=fun vs H Q E=>∃(v:V) (ds:List Pd) (s n e g ew:Nat),vs= [v]∧TrAt H v (.tup (ds.map pdT))∧Bn s n e g ew ds∧(¬Gd ds→∀H',Same H H'→E (.ref C) none H')∧
 (Gd ds→∀x H' rs,Same H H'→k9 (lits ds) rs→TrAt H' x (.tup rs)→Q x H')
theorem scRs:aD ["parts","atoms","pairs","total","kind","inner","bound","truth","weight","many","strict"] ["parts"] (ah sRoS):=⟨rfl,rfl,rfl,by decide +kernel,rfl,by decide +kernel,by decide +kernel⟩
theorem xz {f fN fT fP fS fG fR fI C Z:Addr} {fd dN dT dP dS dG dR dI:FuncData} (F:Fun K "row_of_sum" "row_of_sum" sRoS f fd) (B:Blt mg)
 (GI:FnOk P w K mg base CX0 1 fI dI ["self","words"] (fg K)) (bI:Binds K dI ["self","words"] []) (mX:mg "NoStep"=some (.ref C)) (XC:XCls K C fI) (mZ:mg "ZERO"=some (.ref Z)) (hZ:∀H:Hp,SqT K H Z [.int 0, .int 1])
 (gN:FnOk P w K mg base CX0 1 fN dN ["one"] iW) (kN:PySem.W.keepIn K (.ref fN)=true) (bN:Binds K dN ["one"] []) (mN:mg "contrary"=some (.ref fN))
 (gT:FnOk P w K mg base CX0 2 fT dT ["one","other"] (de K)) (kT:PySem.W.keepIn K (.ref fT)=true) (bT:Binds K dT ["one","other"] []) (mT:mg "times"=some (.ref fT))
 (gP:FnOk P w K mg base CX0 2 fP dP ["one","other"] (eZ K)) (kP:PySem.W.keepIn K (.ref fP)=true) (bP:Binds K dP ["one","other"] []) (mP:mg "plus"=some (.ref fP))
 (gS:FnOk P w K mg base CX0 3 fS dS ["pairs"] ik) (kS:PySem.W.keepIn K (.ref fS)=true) (bS:Binds K dS ["pairs"] []) (mS:mg "sum_of"=some (.ref fS))
 (gG:FnOk P w K mg base CX0 1 fG dG ["one"] (kz K)) (kG:PySem.W.keepIn K (.ref fG)=true) (bG:Binds K dG ["one"] []) (mG:mg "sign_of"=some (.ref fG))
 (gR:FnOk P w K mg base CX0 1 fR dR ["literals"] im) (kR:PySem.W.keepIn K (.ref fR)=true) (bR:Binds K dR ["literals"] []) (mR:mg "row_of"=some (.ref fR)):FnOk P w K mg base (CX1 P w) 4 f fd ["parts"] (rP C):=by
 refine F.okX scRs (fun vs H Q E h=> ?_) (fun cdv A outer s H vs Q E hr h=> ?_)
 · refine hide fun q_ e_=> ?_
   obtain ⟨v,ds,_,_,_,_,_,rfl,_⟩:=h
   subst e_
   rfl
 refine hide fun q_ e_=> ?_
 obtain ⟨v,ds,s_,n,e,g,ew,rfl,hv,bn,kE,kQ⟩:=h
 subst e_
 have hr1:Room 1 _:=hr.mono (by decide)
 have hr2:Room 2 _:=hr.mono (by decide)
 have hr3:Room 3 _:=hr.mono (by decide)
 have hun:=hr.units
 have hu50:_+50 < cLine:=zq (zM (by decide) _) hun
 have nd3:(["atom","truth","weight"]:List Str).Nodup:=by decide +kernel
 have nd2:(["one","other"]:List Str).Nodup:=by decide +kernel
 have ndm:(["term","share","many"]:List Str).Nodup:=by decide +kernel
 refine ⟨_,af (aJ (i:=1) scRs.nd rfl (Or.inl rfl) (ar (lE (zq (zM (by decide) _) hun)) rfl B.so PyProof.Rows.boot_sorted (a8 (bZ (NC:= ["atom","truth","weight"]) (mp:= [none,none,none]) (g:=gTup K 3 (bQ (aV 0) (bQ (aV 1) (bQ (aV 2) gNil)))) rfl (cL (pv 0)) (fun _ _ _ _ _=>(cw (n:=3) rfl (aI (ax (i:=0) nd3 rfl (Or.inl rfl)) (aI (ax (i:=1) nd3 rfl (Or.inl rfl)) (aI (ax (i:=2) nd3 rfl (Or.inl rfl)) ci))))) (fun _ _ _ _ _=>bw) (fun _ _ _ _ _=>pv 0)) a9)))
  (af (aP (bf (ar (jY rfl) rfl B.an PyProof.Rows.boot_any (a8 (bZ (NC:= ["one","other"]) (mp:= [none,none]) (g:=gTup K 2 (bQ (aV 0) (bQ (aV 1) gNil))) rfl (pi (k:= .lst) rfl B.zi (a8 (pv 1) (a8 (bu oY (pv 1) (cf ac) cg) a9))) (fun _ _ _ _ _=>cw (n:=2) rfl (aI (ax (i:=0) nd2 rfl (Or.inl rfl)) (aI (ax (i:=1) nd2 rfl (Or.inl rfl)) ci))) (fun _ _ _ _ _=>bw)
   (fun _ _ _ _ _=>bJ (r:=rEqT) (jh hu50) (pv 0) (pv 1) (aA _))) a9))) (aj (fj rfl XC (fm XC GI hr2 rfl mX bI ak (a8 aY a9) (by decide) (hlen:=fun vs H Q E ⟨_,_,_,_,e,_⟩=>by rw [e];show 2≤1000;decide)) eO)) au)
  (af (aJ (i:=2) scRs.nd rfl (Or.inl rfl) (cG a9))
  (af (aJ (i:=3) scRs.nd rfl (Or.inl rfl) (ck (v:= .ref Z) rfl mZ rfl))
  (af (gv PassesOwn.leaving rfl (cL (pv 0)) (cw (n:=3) rfl (aI (cw (n:=3) rfl (aI (ax (i:=4) scRs.nd rfl (Or.inl rfl)) (aI (ax (i:=5) scRs.nd rfl (Or.inl rfl)) (aI (ax (i:=6) scRs.nd rfl (Or.inl rfl)) ci)))) (aI (ax (i:=7) scRs.nd rfl (Or.inl rfl)) (aI (ax (i:=8) scRs.nd rfl (Or.inl rfl)) ci))))
   (af (aJ (i:=9) scRs.nd rfl (Or.inr rfl) (mh (bf (pv 7)) (pv 8) (ai gN hr1 rfl mN kN bN .nil ak (a8 (pv 8) a9))))
   (af (f8 (je PySem.F.plainAttrs_list PySem.F.slot_list_extend PySem.F.type_list_extend qB (pv 2) (a8 (bZ (NC:= ["term","share","many"]) (mp:= [none,none,some 9]) (g:=gTup K 2 (bQ (aV 0) (bQ (aV 1) gNil))) rfl (cL (pv 5))
    (fun _ _ _ _ _=>cw (n:=2) rfl (aI (ax (i:=0) ndm rfl (Or.inl rfl) (Or.inr rfl)) (aI (ax (i:=1) ndm rfl (Or.inl rfl) (Or.inr rfl)) ci))) (fun _ _ _ _ _=>bw)
    (fun _ _ _ _ _=>aB (a8 (pv 0) (a8 (ai gT hr2 rfl mT kT bT .nil ak (a8 (pv 1) (a8 (pv 2) a9))) a9)))) a9)))
   (aj (aJ (i:=3) scRs.nd rfl (Or.inl rfl) (ai gP hr2 rfl mP kP bP .nil ak (a8 (pv 3) (a8 (ai gT hr2 rfl mT kT bT .nil ak (a8 (pv 6) (a8 (pv 9) a9))) a9))))))))
  (af (aJ (i:=10) scRs.nd rfl (Or.inl rfl) (ar (jY rfl) rfl B.an PyProof.Rows.boot_any (a8 (bZ (NC:= ["atom","truth","weight"]) (mp:= [none,none,none]) (g:=gTup K 3 (bQ (aV 0) (bQ (aV 1) (bQ (aV 2) gNil)))) rfl (cL (pv 0)) (fun _ _ _ _ _=>(cw (n:=3) rfl (aI (ax (i:=0) nd3 rfl (Or.inl rfl)) (aI (ax (i:=1) nd3 rfl (Or.inl rfl)) (aI (ax (i:=2) nd3 rfl (Or.inl rfl)) ci))))) (fun _ _ _ _ _=>bw) (fun _ _ _ _ _=>iE (pv 1))) a9)))
  (af (aP (PW.pt (cP (aE (o7 hu50) (ai gS hr3 rfl mS kS bS .nil ak (a8 (pv 2) a9)) (aB a9) (aA _)) (cP (aE gh (ai gG hr1 rfl mG kG bG .nil ak (a8 (pv 3) a9)) ac (aA _)) (cR (PW.pt (jd (aE bY (ai gG hr1 rfl mG kG bG .nil ak (a8 (pv 3) a9)) ac (aA _)) (hJ (cj (bf (pv 10)))))))))) (aj (fj rfl XC (fm XC GI hr2 rfl mX bI ak (a8 aY a9) (by decide) (hlen:=fun vs H Q E ⟨_,_,_,_,e,_⟩=>by rw [e];show 2≤1000;decide)) eO)) au)
  (aj (am (ai gR hr1 rfl mR kR bR .nil ak (a8 (bZ (NC:= ["atom","truth","weight"]) (mp:= [none,none,none]) (g:=gTup K 3 (bQ (aV 0) (bQ (aV 1) (bQ (aV 2) gNil)))) rfl (cL (pv 0)) (fun _ _ _ _ _=>(cw (n:=3) rfl (aI (ax (i:=0) nd3 rfl (Or.inl rfl)) (aI (ax (i:=1) nd3 rfl (Or.inl rfl)) (aI (ax (i:=2) nd3 rfl (Or.inl rfl)) ci))))) (fun _ _ _ _ _=>bw) (fun _ _ _ _ _=>aB (a8 (pv 0) (a8 (iE (pv 1)) a9)))) a9)))))))))),?_⟩
 have hL20:(20000:Nat)≤sizeLine:=by decide +kernel
 refine hide fun q_ e_=> ?_
 obtain ⟨pa,xs,rfl,hpa,hxs⟩:=at_t hv
 subst e_
 have xl:=hxs.len
 rw [yW] at xl
 have dl:=bn.len
 have okd:∀ {i:Nat} {d:Pd},ds[i]?=some d→PdOk s_ e g ew d:=fun ed=>bn.ok _ (z7 ed)
 refine oQ ?_
 refine ju (K':=K) (xs:=xs) (rest:= []) (a:=pa) rfl (fun Q q=>⟨_,rfl,q⟩) (SqT.of hpa) fun L nL=> ?_
 refine ⟨fun i acc H'=>Same H H'∧H' L=some (.lst acc)∧TrsAt H' acc ((ds.take i).map atT),⟨ae nL,aa,by rw [zQ];exact .nil⟩,fun i acc H' p=>SqT.of (p.1 _ _ hpa),?_,?_⟩
 · rintro i z acc H' hi ⟨sH,hL,hA⟩ ez
   refine hide fun q_ e_=> ?_
   obtain ⟨us,ff,wt,b,r,a,ru,rf,rw',ed,rfl,h1,ha,hu,hrf,hrw⟩:=hV (hxs.mono (Kd.of_same sH)) ez
   subst e_
   refine ⟨r,_,_,_,rfl,SqT.of h1,_,rfl,?_⟩
   have al:=hA.len
   rw [yW,zm] at al
   have kd:=Kd.upd (ys:=acc++ [.ref a]) hL
   refine CompN.mk hi (by omega) hL ⟨br nL sH,aa,?_⟩
   rw [be ed,zh]
   exact TrsAt.app (.cons ((mH ha hu hrf).mono kd) .nil) (hA.mono kd)
 rintro acc H1 ⟨s1,hL1,hA1⟩
 rw [xl,zL] at hA1
 have tyA:∀t∈ds.map atT,Ty .ws t∧t.depth≤10:=fun t m=>by
  obtain ⟨d,md,rfl⟩:=zx.mp m
  exact pZ (bn.ok d md)
 refine ⟨L,acc,ds.map atT,rfl,hL1,hA1,by rw [yW];omega,fun t m=>⟨yQ (tyA t m).1,cV (tyA t m).1,by have:=(tyA t m).2;omega⟩,fun t m u mu=>lO 30 (by have:=(tyA t m).2;omega) (tyA t m).1 (tyA u mu).1,fun D ws us nD pm hTw srt=> ?_⟩
 have s2:=s1.trans (ae (o:= .lst ws) nD)
 have hD2:(upd H1 D (.lst ws)) D=some (.lst ws):=aa
 have hTw2:=hTw.mono (Kd.of_same (ae (o:= .lst ws) nD))
 clear hTw hA1 hL1
 generalize upd H1 D (.lst ws)=H2 at s2 hD2 hTw2 ⊢
 have wl:=hTw2.len
 have ul:=pm.length_eq
 rw [yW] at ul
 have tyU:∀t∈us,Ty .ws t∧t.depth≤10:=fun t m=>tyA t (pm.mem_iff.mp m)
 have nod:(adjB us).any id=false↔(ds.map atT).Nodup:=(uI (fun t m=>(tyU t m).1) (x6 srt)).trans pm.nodup_iff
 refine aR ?_
 refine dg (fun σ' H'=>(ds.map atT).Nodup∧Same H H'∧σ'= [some (.ref pa),some (.ref D),none,none,none,none,none,none,none,none,none]) ?_ fun nx hnx=> ?_
 rotate_left
 · have rai:¬Gd ds→∀H',Same H H'→∀x,H' x=none→s.heap.get? x=none→fg K [.ref x, .str (Str.ofString "an atom stands in two parts")] (upd H' x (Exo C x)) (fun v H2=>v= .non∧∃e,V.ref x= .ref e∧H2 e=some (Exo C e)∧s.heap.get? e=none∧E (.ref C) none (unt H2 e)) E0:=by
    intro hf H' sH x nx' ns
    refine ⟨x,C,fI,_,rfl,aa,XC,rfl,x,rfl,aa,ns,?_⟩
    rw [iP nx']
    exact kE hf H' sH
   refine wV ?_
   refine jH ?_
   refine ⟨_,rfl,_,rfl,_,rfl,D,ws,rfl,SqL.of hD2,fun p np=> ?_⟩
   rw [cut1 ws]
   have s3:=ae (o:= .lst (ws.drop 1)) np
   have hD3:=s3 _ _ hD2
   have hp3:(upd H2 p (.lst (ws.drop 1))) p=some (.lst (ws.drop 1)):=aa
   have hTw3:=hTw2.mono (Kd.of_same s3)
   have s23:=s2.trans s3
   generalize upd H2 p (.lst (ws.drop 1))=H3 at s3 hD3 hp3 hTw3 s23 ⊢
   refine ⟨D,p,ws,ws.drop 1,rfl,SqL.of hD3,SqL.of hp3,?_⟩
   refine ny (K':=K) (rest:= []) (xs:=ws) (ys:=ws.drop 1) rfl (by rw [zI];omega) fun M nM=> ?_
   refine ⟨fun i acc H'=>Same H3 H'∧H' M=some (.lst acc)∧acc=((adjB us).take i).map V.bl,⟨ae nM,aa,rfl⟩,fun i acc H' q=>⟨SqL.of (q.1 _ _ hD3),SqL.of (q.1 _ _ hp3)⟩,?_,?_⟩
   · rintro i T x y acc H4 hi _ ⟨s4,hM,rfl⟩ ex ey nT
     rw [zI] at hi
     rw [List.getElem?_drop] at ey
     have sT:=ae (o:= .tup [x,y]) nT
     have s34:=s4.trans sT
     obtain ⟨u,eu,hu⟩:=(hTw3.mono (Kd.of_same s34)).get' ex
     obtain ⟨z,ez,hz⟩:=(hTw3.mono (Kd.of_same s34)).get' ey
     have tu:=tyU u (z7 eu)
     have tz:=tyU z (z7 ez)
     obtain ⟨lu,rfl⟩:=qW tu.1
     obtain ⟨lz,rfl⟩:=qW tz.1
     have pu:=cV tu.1
     have du:=tu.2
     unfold Tr.pure at pu
     simp only [Tr.depth] at du
     refine ⟨_,rfl,_,rfl,lu,lz,hu,hz, .inl pu,by omega,?_⟩
     have ag:=we eu ez
     refine CompN.mk (by rw [zI];exact hi) (by rw [yW,zm];omega) (sT _ _ hM) ⟨br nM (s4.trans sT),aa,?_⟩
     rw [be ag,zh]
     unfold eqT
     rfl
   rintro acc H4 ⟨s4,hM,rfl⟩
   rw [zI,wl,←wd,zL] at hM
   refine ⟨M,adjB us,rfl,SqL.of hM,_,rfl,?_⟩
   have s24:=s23.trans s4
   cases q:(adjB us).any id with
   |true=>
    have ng:¬Gd ds:=fun gd=>by
     rw [nod.mpr gd.1] at q
     cases q
    refine iteT ?_
    exact fun x nx' ns=>rai ng _ s24 x nx' ns
   |false=>
    refine iteF ?_
    exact hnx _ _ ⟨nod.mp q,s24,rfl⟩
 rintro σ3 H3 ⟨nodu,s3,rfl⟩
 clear hD2 hTw2 s1 s2 nod srt tyU pm
 refine ⟨by show 0≤sizeLine;decide,fun PL nPL=> ?_⟩
 have s4:=s3.trans (ae (o:= .lst []) nPL)
 have nPL0:=s3.free nPL
 have hPL4:(upd H3 PL (.lst [])) PL=some (.lst []):=aa
 generalize upd H3 PL (.lst [])=H4 at s4 hPL4 ⊢
 refine ⟨_,rfl,pa,rfl,⟨xs,SqT.of (s4 _ _ hpa)⟩,?_⟩
 refine pM (xs:=xs) (fun i σ H'=>Same H H'∧∃(rs:List V) (za:Addr) (x:Fr) (v4 v5 v6 v7 v8 v9:Option V),σ= [some (.ref pa),some (.ref D),some (.ref PL),some (.ref za),v4,v5,v6,v7,v8,v9,none]∧H' PL=some (.lst rs)∧TrsAt H' rs ((prs (ds.take i)).map prT)∧Zt K H' za x∧Sh x∧rv x=tbd (ds.take i)∧Gf (i*(g+ew+3)+1) x)
  ⟨s4,[],Z,zero,none,none,none,none,none,none,rfl,hPL4, .nil, .inl hZ,kY,rv_zero,gf_zero1.mono (by omega)⟩ (fun i σ H' _ p=>SqT.of (p.1 _ _ hpa)) ?_ ?_
 · intro i x σ H' ex z_
   refine hide fun q_ e_=> ?_
   obtain ⟨sH,rs,za,tx,v4,v5,v6,v7,v8,v9,rfl,hPL,hTr,hza,shx,rvx,gx⟩:=z_
   subst e_
   refine hide fun q_ e_=> ?_
   obtain ⟨us,ff,wt,b,r,a,ru,rf,rw',ed,rfl,h1,ha,hu,hrf,hrw⟩:=hV (hxs.mono (Kd.of_same sH)) ex
   subst e_
   have ilt:i < ds.length:=(zd.mp ed).1
   have ho:PtOk s_ e g ew us ff wt:=okd ed
   have etk:=be ed
   have hmulg:(i+1)*(g+ew+3)=i*(g+ew+3)+g+ew+3:=by rw [Nat.succ_mul];omega
   have hmulg2:(i+1)*(g+ew+3)≤6*(g+ew+3):=zT _ (by omega)
   have hg8:=bn.g8
   have hw9:=bn.w9
   have he6:=bn.e6
   have hg9:=bn.g9
   have ssg:Sh (sgF b wt):=io ho.sw
   have gsg:Gf ew (sgF b wt):=wG ho.gw ho.sw
   refine ⟨r,_,rfl,SqT.of h1,rfl,_,_,rfl,a,_,rfl,SqT.of ha,rfl,_,_,rfl,_,_,rfl,_,_,rfl,rfl,_,_,rfl,_,_,rfl,rfl,?_⟩
   refine dg (fun σ' H''=>∃rm,Same H' H''∧σ'= [some (.ref pa),some (.ref D),some (.ref PL),some (.ref za),some (.str "most"),some (.ref ru),some (.ref rf),some (.bl b),some (.ref rw'),some (.ref rm),none]∧H'' rm=some (.tup [.int (sgF b wt).1, .int (sgF b wt).2])) ?_ fun nx hnx=> ?_
   rotate_left
   · refine ⟨_,rfl,b,rfl,?_⟩
     cases b with
     |true=>
      refine iteT ⟨_,rfl,?_⟩
      exact hnx _ _ ⟨rw',Same.refl _,rfl,hrw⟩
     |false=>
      refine iteF ⟨_,rfl, .ref rw',wt,rfl,aK hrw,fun u H5 s5 hu5=> ?_⟩
      rw [rY ho.sw] at hu5
      obtain ⟨rm,rfl,hrm⟩:=cH hu5
      exact hnx _ _ ⟨rm,s5,rfl,hrm⟩
   intro σ1 H1 z_
   refine hide fun q_ e_=> ?_
   obtain ⟨rm,s1,rfl,hrm⟩:=z_
   subst e_
   refine hide fun q_ e_=> ?_
   obtain ⟨ru_,ys,eru,hru,hys⟩:=at_t (hu.mono (Kd.of_same s1))
   subst e_
   cases eru
   have yl:=hys.len
   rw [yW] at yl
   have hPL1:=s1 _ _ hPL
   have hTr1:=hTr.mono (Kd.of_same s1)
   have rl:=hTr1.len
   rw [yW,pe] at rl
   have hn1:=mz ds i
   have hnn:=bn.nn
   have hn64:=bn.n64
   have husl:=ho.us.len
   have hs64:=bn.s64
   refine ⟨_,rfl, .inl ⟨rfl,_,SqL.of hPL1⟩,?_⟩
   refine km ?_
   refine nw (K':=K) (xs:=ys) (rest:= [some (.ref rm)]) (a:=ru) rfl (fun Q q=>⟨_,rfl,q⟩) (SqT.of hru) fun M nM=> ?_
   refine ⟨fun j acc H''=>Same H1 H''∧H'' M=some (.lst acc)∧TrsAt H'' acc (((us.take j).map (ge (sgF b wt))).map prT),⟨ae nM,aa,by rw [zQ];exact .nil⟩,fun j acc H'' p=>SqT.of (p.1 _ _ hru),?_,?_⟩
   · rintro j z acc H2 hj ⟨sH2,hM,hA⟩ ez
     obtain ⟨t',et,ht'⟩:=(hys.mono (Kd.of_same sH2)).get' ez
     rw [zF] at et
     refine hide fun q_ e_=> ?_
     obtain ⟨⟨tm,fr⟩,eq,rfl⟩:=zH.mp et
     subst e_
     have gg:=ho.us.gq _ (z7 eq)
     refine hide fun q_ e_=> ?_
     obtain ⟨T,x,y,rfl,hT,hx,hy⟩:=dY ht'
     subst e_
     obtain ⟨rq,rfl,hrq⟩:=cH hy
     have al:=hA.len
     rw [yW,yW,zm] at al
     refine ⟨T,x, .ref rq,rfl,SqT.of hT,?_⟩
     refine ⟨_,rfl,_,rfl,_,rfl,rq,rm,fr.1,fr.2,(sgF b wt).1,(sgF b wt).2,rfl,SqT.of hrq,SqT.of (sH2 _ _ hrm),⟨gg.gf.pos,gsg.pos,gg.gf.b1 (by omega),gg.gf.b2 (by omega),gsg.b1 (by omega),gsg.b2 (by omega)⟩,fun ro H6 _ s6 hro=> ?_⟩
     refine ⟨by show 2≤sizeLine;decide,fun p np=> ?_⟩
     have sp:=ae (o:= .tup [x, .ref ro]) np
     have s7:=s6.trans sp
     have hM7:=s7 _ _ hM
     have kd:=(Kd.of_same s7).trans (Kd.upd (ys:=acc++ [.ref p]) hM7)
     have nMp:p≠M:=fun z=>by rw [z,s6 _ _ hM] at np;cases np
     have nMr:ro≠M:=fun z=>by rw [z,s6 _ _ hM] at hro;cases hro
     refine CompN.mk hj (by omega) hM7 ⟨br nM (sH2.trans s7),aa,?_⟩
     rw [be eq,zh,zh]
     refine TrsAt.app (.cons ?_ .nil) (hA.mono kd)
     exact cN (a:=tm) (b:=frT (bq fr (sgF b wt))) ((aG nMp).trans aa) (hx.mono kd) (aK ((aG nMr).trans (sp _ _ hro)))
   rintro acc H2 ⟨s2,hM,hA⟩
   rw [yl,zL] at hA
   have al:=hA.len
   rw [yW,yW] at al
   have hPL2:=s2 _ _ hPL1
   refine ⟨PL,M,rs,acc,rfl,rfl,hPL2,hM,by omega,?_⟩
   have kd3:=Kd.upd (ys:=rs++acc) hPL2
   have hTr3:TrsAt (upd H2 PL (.lst (rs++acc))) (rs++acc) ((prs (ds.take (i+1))).map prT):=by
    rw [etk,l7,l6,zh]
    exact TrsAt.app (hA.mono kd3) (hTr1.mono ((Kd.of_same s2).trans kd3))
   have sH3:=br (o:= .lst (rs++acc)) nPL0 (sH.trans (s1.trans s2))
   have hrf3:=kd3.tup _ _ (s2 _ _ (s1 _ _ hrf))
   have hrm3:=kd3.tup _ _ (s2 _ _ hrm)
   have hza3:=hza.kd ((Kd.of_same (s1.trans s2)).trans kd3)
   have hPL3:(upd H2 PL (.lst (rs++acc))) PL=some (.lst (rs++acc)):=aa
   generalize upd H2 PL (.lst (rs++acc))=H3' at hTr3 sH3 hrf3 hrm3 hza3 hPL3 kd3 ⊢
   refine ⟨_,rfl,_,rfl,_,rfl,rf,rm,_,_,_,_,rfl,SqT.of hrf3,SqT.of hrm3,⟨ho.gf.pos,gsg.pos,ho.gf.b1 (by omega),ho.gf.b2 (by omega),gsg.b1 (by omega),gsg.b2 (by omega)⟩,fun r6 H6 _ s6 h6=> ?_⟩
   have gt:Gf (g+ew) (bq ff (sgF b wt)):=ho.gf.times gsg
   have st:Sh (bq ff (sgF b wt)):=cy ho.sf ssg
   refine ⟨za,r6,tx.1,tx.2,(bq ff (sgF b wt)).1,(bq ff (sgF b wt)).2,rfl,(hza3.kd (Kd.of_same s6)).sq,SqT.of h6,⟨gx.pos,gt.pos,gx.b1 (by omega),gx.b2 (by omega),gt.b1 (by omega),gt.b2 (by omega)⟩,fun r7 H7 _ s7 h7=> ?_⟩
   refine ⟨sH3.trans (s6.trans s7),_,r7,cK tx (bq ff (sgF b wt)),_,_,_,_,_,_,rfl,s7 _ _ (s6 _ _ hPL3),hTr3.mono (Kd.of_same (s6.trans s7)), .inr h7,df shx st,?_,(gx.plus gt).mono (by omega)⟩
   rw [iY shx st,rvx,hG ho.sf ssg,etk,oT]
   simp only [tbd,sgD]
   grind
 intro σ5 H5 z_
 refine hide fun q_ e_=> ?_
 obtain ⟨s5,rs,za,x,v4,v5,v6,v7,v8,v9,rfl,hPL,hTr,hza,shx,rvx,gx⟩:=z_
 subst e_
 rw [xl,zL] at hTr rvx
 have hg8:=bn.g8
 have hnn:=bn.nn
 have hn64:=bn.n64
 have hw9:=bn.w9
 have he6:=bn.e6
 dsimp only
 refine oQ ?_
 refine ju (K':=K) (xs:=xs) (rest:= []) (a:=pa) rfl (fun Q q=>⟨_,rfl,q⟩) (SqT.of (s5 _ _ hpa)) fun M nM=> ?_
 refine ⟨fun i acc H'=>Same H5 H'∧H' M=some (.lst acc)∧acc=((ds.take i).map fun d=> !d.2.2.2).map V.bl,⟨ae nM,aa,by rw [zQ];rfl⟩,fun i acc H' p=>SqT.of (p.1 _ _ (s5 _ _ hpa)),?_,?_⟩
 · rintro i z acc H' hi ⟨sH,hM,rfl⟩ ez
   refine hide fun q_ e_=> ?_
   obtain ⟨us,ff,wt,b,r,a,ru,rf,rw',ed,rfl,h1,ha,hu,hrf,hrw⟩:=hV (hxs.mono (Kd.of_same (s5.trans sH))) ez
   subst e_
   refine ⟨r,_,_,_,rfl,SqT.of h1,_,rfl,b,rfl,?_⟩
   refine CompN.mk hi (by rw [yW,yW,zm];omega) hM ⟨br nM sH,aa,?_⟩
   rw [be ed,zh,zh]
   rfl
 rintro acc H6 ⟨s6,hM,rfl⟩
 rw [xl,zL] at hM
 refine ⟨M,_,rfl,SqL.of hM,?_⟩
 rw [vE]
 have s56:=s5.trans s6
 have hPL6:=s6 _ _ hPL
 have hTr6:=hTr.mono (Kd.of_same s6)
 have hza6:=hza.kd (Kd.of_same s6)
 clear hPL hTr hza hM
 obtain ⟨str,estr⟩:∃c,(ds.any fun d=> !d.2.2.2)=c:=⟨_,rfl⟩
 rw [estr]
 refine aR ?_
 refine dg (fun σ' H'=>Gd ds∧Same H H'∧σ'= [some (.ref pa),some (.ref D),some (.ref PL),some (.ref za),v4,v5,v6,v7,v8,v9,some (.bl str)]) ?_ fun nx hnx=> ?_
 rotate_left
 · have rai:¬Gd ds→∀H',Same H H'→∀x,H' x=none→s.heap.get? x=none→fg K [.ref x, .str (Str.ofString "the parts may hold together")] (upd H' x (Exo C x)) (fun v H2=>v= .non∧∃e,V.ref x= .ref e∧H2 e=some (Exo C e)∧s.heap.get? e=none∧E (.ref C) none (unt H2 e)) E0:=by
    intro hf H' sH x nx' ns
    refine ⟨x,C,fI,_,rfl,aa,XC,rfl,x,rfl,aa,ns,?_⟩
    rw [iP nx']
    exact kE hf H' sH
   have gprs:∀p∈prs ds,Gq (e+ew) p:=fun p mp=>by
    obtain ⟨d,md,mp⟩:=List.mem_flatMap.mp mp
    obtain ⟨q,mq,rfl⟩:=zx.mp mp
    have hd:=bn.ok d md
    have gq:=hd.us.gq q mq
    exact ⟨gq.ty,gq.dep,gq.gf.times (wG hd.gw hd.sw),cy gq.sh (io hd.sw)⟩
   refine ⟨_,rfl,PL,rs,prs ds,n,e+ew,rfl,hPL6,hTr6,by rw [pe];exact hnn,hn64,bn.n8,gprs,fun v H7 us s7 hv hcan hul hgu=> ?_⟩
   have hz:=lP hcan.asc hcan.sh fun t=>(hcan.eq t).trans (oR t bn.ok)
   refine ⟨by show 0≤sizeLine;decide,fun p np=> ?_⟩
   have s8:=ae (o:= .tup []) np
   have h8:(upd H7 p (.tup [])) p=some (.tup []):=aa
   have hv8:=hv.mono (Kd.of_same s8)
   have s58:=s56.trans (s7.trans s8)
   have hza8:=hza6.kd (Kd.of_same (s7.trans s8))
   generalize upd H7 p (.tup [])=H8 at h8 hv8 s58 hza8 ⊢
   have dus:Trs.depth (us.map prT)≤40:=by
    have:=cT (n:=8) (ts:=us.map prT) fun t m=>by
     obtain ⟨q,mq,rfl⟩:=zx.mp m
     exact (hgu q mq).pr.2
    omega
   refine ⟨us.map prT,[],hv8,aU h8 .nil, .inr (by simp [Trs.pure]),dus,_,rfl,?_⟩
   cases us with
   |cons u us=>
    refine if_t (by simp [eqTs]) ?_
    refine fun x nx' ns=>rai (fun gd=> ?_) _ s58 x nx' ns
    have:=hz.mpr gd.2.1
    cases this
   |nil=>
   have zz:=hz.mp rfl
   refine if_f (by simp [eqTs]) ?_
   have sx:=shx.1
   have p1:=se sx
   have p2:=si sx
   rw [rvx] at p1 p2
   refine ⟨_,rfl,za,x.1,x.2,rfl,hza8.sq,_,_,rfl,rfl,_,rfl,?_⟩
   by_cases hp:0 < x.1
   · refine if_t (decide_eq_true (by unfold sgn;rw [if_neg (by omega),if_pos hp];decide)) ?_
     refine fun x' nx' ns=>rai (fun gd=> ?_) _ s58 x' nx' ns
     have:tbd ds≤0:=gd.2.2.elim (fun h=>by grind) fun h=>by grind
     have:=p1.mpr this
     omega
   have hs0:¬0 < sgn x.1:=by
    unfold sgn
    rw [if_neg hp]
    split<;>decide
   refine if_f (decide_eq_false hs0) ?_
   have le0:=p1.mp (by omega)
   refine ⟨_,rfl,za,x.1,x.2,rfl,hza8.sq,rfl,_,rfl,?_⟩
   by_cases hn:x.1 < 0
   · have hs1:sgn x.1= -1:=by unfold sgn;rw [if_pos hn]
     rw [hs1]
     refine if_f (decide_eq_false (fun z=>by have:=V.int.inj z;omega)) ?_
     refine iteF ?_
     refine hnx _ _ ⟨⟨nodu,zz, .inl ?_⟩,s58,rfl⟩
     have:¬0≤tbd ds:=fun h=>by have:=p2.mpr h;omega
     grind
   · have hs1:sgn x.1=0:=by unfold sgn;rw [if_neg hn,if_neg hp]
     rw [hs1]
     have e0:tbd ds=0:=by
      have:=p2.mp (by omega)
      grind
     refine if_t (decide_eq_true rfl) ?_
     refine ⟨_,rfl,str,rfl,?_⟩
     cases str with
     |true=>
      refine iteF ?_
      exact hnx _ _ ⟨⟨nodu,zz, .inr ⟨e0,any_false.mp estr⟩⟩,s58,rfl⟩
     |false=>
      refine iteT ?_
      refine fun x' nx' ns=>rai (fun gd=> ?_) _ s58 x' nx' ns
      rcases gd.2.2 with h|h
      · rw [e0] at h
        exact absurd h (by decide)
      · rw [any_false.mpr h.2] at estr
        cases estr
 rintro σ7 H7 ⟨gd,s7,rfl⟩
 refine iR ?_
 refine ju (K':=K) (xs:=xs) (rest:= []) (a:=pa) rfl (fun Q q=>⟨_,rfl,q⟩) (SqT.of (s7 _ _ hpa)) fun M nM=> ?_
 refine ⟨fun i acc H'=>Same H7 H'∧H' M=some (.lst acc)∧TrsAt H' acc ((ds.take i).map ltD),⟨ae nM,aa,by rw [zQ];exact .nil⟩,fun i acc H' p=>SqT.of (p.1 _ _ (s7 _ _ hpa)),?_,?_⟩
 · rintro i z acc H' hi ⟨sH,hM,hA⟩ ez
   refine hide fun q_ e_=> ?_
   obtain ⟨us,ff,wt,b,r,a,ru,rf,rw',ed,rfl,h1,ha,hu,hrf,hrw⟩:=hV (hxs.mono (Kd.of_same (s7.trans sH))) ez
   subst e_
   have al:=hA.len
   rw [yW,zm] at al
   refine ⟨r,_,_,_,rfl,SqT.of h1,_,rfl,_,rfl,b,rfl,by show 2≤sizeLine;decide,fun p np=> ?_⟩
   have sp:=ae (o:= .tup [.ref a, .bl (!b)]) np
   have hMp:=sp _ _ hM
   have kd:=(Kd.of_same sp).trans (Kd.upd (ys:=acc++ [.ref p]) hMp)
   have nMp:p≠M:=fun z=>by rw [z,hM] at np;cases np
   refine CompN.mk hi (by omega) hMp ⟨br nM (sH.trans sp),aa,?_⟩
   rw [be ed,zh]
   exact TrsAt.app (.cons (cN ((aG nMp).trans aa) ((mH (wt:=wt) (b:=b) ha hu hrf).mono kd) e9) .nil) (hA.mono kd)
 rintro acc H8 ⟨s8,hM,hA⟩
 rw [xl,zL] at hA
 refine ⟨M,acc,lits ds,rfl,hM,hA,by unfold lits;rw [yW];omega,fun t m=> ?_,fun v H9 qs s9 ro hv=>kQ gd v H9 qs (s7.trans (s8.trans s9)) ro hv⟩
 obtain ⟨d,md,rfl⟩:=zx.mp m
 have:=tM (bn.ok d md)
 exact ⟨this.1,by omega⟩
end
open PySem L2 Mth Tre Wd Dj Su
def Gr (ds:List Pd):Prop:=okD ds=true∧Gd ds
section
variable {P:Program} {w:World} {K:PySem.W.Frag} {mg:Str→Option Value} {base:Heap}
def spRb (C:Addr):Sp:=fun vs H Q E=>∃(wl rl:Addr) (v:V) (ds:List Pd) (s n e g ew:Nat),vs= [.ref wl, .ref rl,v]∧TrAt H v (smT ds)∧Bn s n e g ew ds∧(¬Gr ds→∀H',Same H H'→E (.ref C) none H')∧
 (Gr ds→∀x H' rs,Same H H'→k9 (lits ds) rs→TrAt H' x (.tup rs)→Q x H')
theorem scRb:aD ["wishes","rows","step","kind"] ["wishes","rows","step"] (ah sRby):=⟨rfl,rfl,rfl,by decide +kernel,rfl,by decide +kernel,by decide +kernel⟩
theorem yE {f C fS fR fI:Addr} {fd dS dR dI:FuncData} (F:Fun K "row_by" "row_by" sRby f fd)
 (GI:FnOk P w K mg base CX0 1 fI dI ["self","words"] (fg K)) (bI:Binds K dI ["self","words"] []) (mX:mg "NoStep"=some (.ref C)) (XC:XCls K C fI)
 (gS:FnOk P w K mg base CX0 24 fS dS ["thing"] rN) (kS:PySem.W.keepIn K (.ref fS)=true) (bS:Binds K dS ["thing"] []) (mS:mg "is_step"=some (.ref fS))
 (gR:FnOk P w K mg base (CX1 P w) 4 fR dR ["parts"] (rP C)) (kR:PySem.W.keepIn K (.ref fR)=true) (bR:Binds K dR ["parts"] []) (mR:mg "row_of_sum"=some (.ref fR)):FnOk P w K mg base (CX1 P w) 25 f fd ["wishes","rows","step"] (spRb C):=by
 refine F.okX scRb (fun vs H Q E h=> ?_) (fun cdv A outer s H vs Q E hr h=> ?_)
 · obtain ⟨wl,rl,v,ds,_,_,_,_,_,rfl,_⟩:=h
   rfl
 obtain ⟨wl,rl,v,ds,s_,n,e,g,ew,rfl,hv,bn,kE,kQ⟩:=h
 have hr2:Room 2 _:=hr.mono (by decide)
 have hr4:Room 4 _:=hr.mono (by decide)
 refine ⟨_,af (aP (cj (bf (ai gS hr rfl mS kS bS .nil ak (a8 (pv 2) a9)))) (aj (fj rfl XC (fm XC GI hr2 rfl mX bI ak (a8 aY a9) (by decide) (hlen:=fun vs H Q E ⟨_,_,_,_,e,_⟩=>by rw [e];show 2≤1000;decide)) eO)) au)
  (af (aJ (i:=3) scRb.nd rfl (Or.inl rfl) (aw aq (pv 2) ac fun _ _=>rfl))
  (af (aP (aE bY (pv 3) aY (aA _)) eF au)
  (af (aP (aE bY (pv 3) aY (aA _)) eF au)
  (af (aP (aE bY (pv 3) aY (aA _)) eF au)
  (af (aP (aE bY (pv 3) aY (aA _)) (aj (am (ai gR hr4 rfl mR kR bR .nil yv (a8 (aw aq (pv 2) ac fun _ _=>rfl) a9)))) au)
  eF))))),?_⟩
 have s64:=bn.s64
 refine ⟨_,rfl,v,ds,rfl,hv,by have:=bn.len;omega,fun d m=>(bn.ok d m).mono (by omega) bn.e6 bn.g9 bn.w9,fun H1 s1=>⟨_,rfl,?_⟩⟩
 cases q:okD ds with
 |false=>
  refine iteT ?_
  intro x nx' ns
  refine ⟨x,C,fI,_,rfl,aa,XC,rfl,x,rfl,aa,ns,?_⟩
  rw [iP nx']
  exact kE (fun gr=>by rw [gr.1] at q;cases q) _ s1
 |true=>
  refine iteF ?_
  have hv1:=hv.mono (Kd.of_same s1)
  obtain ⟨r,y,rfl,g1,hy⟩:=at2 hv1
  refine ⟨_,rfl,r,_,0,_,rfl,rfl,SqT.of g1,rfl,?_⟩
  refine ⟨_,rfl,rfl,_,rfl,if_f (decide_eq_false (nst (by decide +kernel))) ?_⟩
  refine ⟨_,rfl,rfl,_,rfl,if_f (decide_eq_false (nst (by decide +kernel))) ?_⟩
  refine ⟨_,rfl,rfl,_,rfl,if_f (decide_eq_false (nst (by decide +kernel))) ?_⟩
  refine ⟨_,rfl,rfl,_,rfl,if_t (decide_eq_true rfl) ?_⟩
  refine ⟨_,rfl,r,_,1,_,rfl,rfl,SqT.of g1,rfl,y,ds,s_,n,e,g,ew,rfl,hy,bn,fun ng H2 s2=> ?_,fun gd x H2 rs s2 ro hx=> ?_⟩
  · exact kE (fun gr=>ng gr.2) _ (s1.trans s2)
  · exact kQ ⟨q,gd⟩ x H2 rs (s1.trans s2) ro hx
end
end K25
namespace K25
open PySem L2 Mth Tre Wd Dj
theorem u7 (K:PySem.W.Frag) (C:Addr):PySem.W.kitOne K (.ref C) (.ref C)=some true:=by
 unfold PySem.W.kitOne
 rw [if_pos (by simp)]
structure Cl (K:PySem.W.Frag) (mg:Str→Option Value) (W C c1 c2 c3 c4 c5 c6 c7 c8 fI:Addr):Prop where
 mW:mg "WishError"=some (.ref W)
 mC:mg "NoStep"=some (.ref C)
 m1:mg "BadStep"=some (.ref c1)
 m2:mg "NoAnswer"=some (.ref c2)
 m3:mg "NoLevel"=some (.ref c3)
 m4:mg "NoLine"=some (.ref c4)
 m5:mg "NoPaper"=some (.ref c5)
 m6:mg "NoShare"=some (.ref c6)
 m7:mg "NoText"=some (.ref c7)
 m8:mg "NoWish"=some (.ref c8)
 xc:XCls K C fI
 xi:XIs K C
 ex:PySem.W.exmOne K (.ref C) (.ref W)=some true
 kv:PySem.W.kitOne K (.ref C) (.type "ValueError")=some true
 kn:PySem.W.kitAny K (.ref C) [.ref c1, .ref c2, .ref c3, .ref c4, .ref c5, .ref c6, .ref c7, .ref c8]=some false
section
variable {P:Program} {w:World} {K:PySem.W.Frag} {mg:Str→Option Value} {base:Heap}
def rQ (C:Addr):Sp:=fun vs H Q _=>∃a:Addr,vs= [.ref a]∧H a=some (Cau C a)∧∀H',Same H H'→Q (.str (Str.ofString "step")) H'
theorem scRf:aD ["_law_e"] ["_law_e"] (ah jO):=⟨rfl,rfl,rfl,by decide +kernel,rfl,by decide +kernel,by decide +kernel⟩
theorem vp {f W C c1 c2 c3 c4 c5 c6 c7 c8 fI:Addr} {fd:FuncData} (F:Fun K "_law_refusal" "_law_refusal" jO f fd) (B:Blt mg) (L:Cl K mg W C c1 c2 c3 c4 c5 c6 c7 c8 fI):nK P w K mg base 1 f fd ["_law_e"] (rQ C):=by
 refine F.okC scRf (fun vs H Q E h=> ?_) (fun cdv A a0 outer s H vs Q E hr h=> ?_)
 · obtain ⟨a,rfl,_⟩:=h
   rfl
 obtain ⟨a,rfl,ha,k⟩:=h
 refine ⟨_,af (aP (bf (ar (r:=rIsi K) aX rfl B.isi ao (a8 (pv 0) (a8 (aB (a8 (ck (v:= .ref c1) rfl L.m1 rfl) (a8 (ck (v:= .ref c2) rfl L.m2 rfl) (a8 (ck (v:= .ref c3) rfl L.m3 rfl) (a8 (ck (v:= .ref c4) rfl L.m4 rfl)
  (a8 (ck (v:= .ref c5) rfl L.m5 rfl) (a8 (ck (v:= .ref c6) rfl L.m6 rfl) (a8 (ck (v:= .ref c7) rfl L.m7 rfl) (a8 (ck (v:= .ref c8) rfl L.m8 rfl) a9))))))))) a9)))) (aj (am aY)) au)
  (aj (am (aw bV (cG (a8 aY (a8 aY a9))) (cn qR rfl B.it PyProof.Rows.boot_int (a8 (c9 (ar (r:=rIsi K) aX rfl B.isi ao (a8 (pv 0) (a8 (ck (v:= .ref C) rfl L.mC rfl) a9)))
   (cF (ar (r:=rIsi K) aX rfl B.isi ao (a8 (pv 0) (a8 (bh (v:= .ty "ValueError") rfl B.ve w6 rfl) a9))))) a9)) fun _ _=>rfl))),?_⟩
 have ty:∀H':Hp,Same H H'→TyX K H' (.ref a) (.ref C):=fun H' e=> .exc (e _ _ ha) L.xi
 refine ⟨_,rfl,by show 8≤sizeLine;decide,fun p np=> ?_⟩
 have s1:=ae (o:= .tup [.ref c1, .ref c2, .ref c3, .ref c4, .ref c5, .ref c6, .ref c7, .ref c8]) np
 refine ⟨.ref a, .ref p,_,false,rfl,ty _ s1, .inr ⟨p,_,rfl,aa,rfl,L.kn⟩,false,rfl,iteF ?_⟩
 refine ⟨by show 2≤sizeLine;decide,fun q nq=> ?_⟩
 have s2:=s1.trans (ae (o:= .lst [.str (Str.ofString "other"), .str (Str.ofString "step")]) nq)
 refine ⟨_,rfl, .ref a, .ref C,_,true,rfl,ty _ s2, .inl ⟨rfl,u7 K C⟩,true,rfl,iteT ?_⟩
 refine ⟨_,rfl, .ref a, .ty "ValueError",_,true,rfl,ty _ s2, .inl ⟨rfl,L.kv⟩, .inr ⟨true,rfl,?_⟩⟩
 exact ⟨q,_,1,_,rfl,rfl,SqL.of aa,rfl,k _ s2⟩
def rT:Sp:=fun vs H Q _=>∃(wl rl:Addr) (v:V) (ds:List Pd) (s n e g ew:Nat),vs= [.ref wl, .ref rl,v]∧TrAt H v (smT ds)∧Bn s n e g ew ds∧
 (¬Gr ds→∀(q:Addr) (H':Hp),Same H H'→H' q=some (.tup [.str (Str.ofString "step"), .non])→Q (.ref q) H')∧
 (Gr ds→∀(q:Addr) (x:V) (H':Hp) (rs:List Tr),Same H H'→k9 (lits ds) rs→TrAt H' x (.tup rs)→H' q=some (.tup [.str (Str.ofString ""),x])→Q (.ref q) H')
theorem scAk:aD ["_law_wishes","_law_rows","_law_step","_law_word","_law_found","_law_e"] ["_law_wishes","_law_rows","_law_step"] (ah sAsk):=⟨rfl,rfl,rfl,by decide +kernel,rfl,by decide +kernel,by decide +kernel⟩
theorem xD {f fR fE W C c1 c2 c3 c4 c5 c6 c7 c8 fI:Addr} {fd dR dE:FuncData} (F:Fun K "_law_asked" "_law_asked" sAsk f fd) (L:Cl K mg W C c1 c2 c3 c4 c5 c6 c7 c8 fI)
 (gR:FnOk P w K mg base (CX1 P w) 25 fR dR ["wishes","rows","step"] (spRb C)) (kR:PySem.W.keepIn K (.ref fR)=true) (bR:Binds K dR ["wishes","rows","step"] []) (mR:mg "row_by"=some (.ref fR))
 (gE:nK P w K mg base 1 fE dE ["_law_e"] (rQ C)) (kE:PySem.W.keepIn K (.ref fE)=true) (bE:Binds K dE ["_law_e"] []) (mE:mg "_law_refusal"=some (.ref fE)):FnOk P w K mg base CX0 26 f fd ["_law_wishes","_law_rows","_law_step"] rT:=by
 refine F.ok scAk (fun vs H Q E h=> ?_) (fun cdv A outer s H vs Q E hr h=> ?_)
 · obtain ⟨wl,rl,v,ds,_,_,_,_,_,rfl,_⟩:=h
   rfl
 obtain ⟨wl,rl,v,ds,s_,n,e,g,ew,rfl,hv,bn,kF,kT⟩:=h
 have hr1:Room 1 _:=hr.mono (by decide)
 refine ⟨_,af (aJ (i:=3) scAk.nd rfl (Or.inl rfl) aY)
  (af (aJ (i:=4) scAk.nd rfl (Or.inl rfl) eG)
  (af (vd (i:=5) (W:=W) (cx:="WishError") rfl rfl scAk.nd rfl rfl rfl L.mW (vc (i:=4) (fun _ _ z=>z) gR hr rfl mR kR bR (a8 (pv 0) (a8 (pv 1) (a8 (pv 2) a9))) scAk.nd rfl rfl)
   (fun a=>aj (aJ (i:=3) scAk.nd rfl (Or.inl rfl) (sQ gE hr1 rfl mE kE bE (a8 (pv 5) a9)))))
  (aj (am (aB (a8 (pv 3) (a8 (pv 4) a9))))))),?_⟩
 refine ⟨_,rfl,_,rfl,_,rfl,wl,rl,v,ds,s_,n,e,g,ew,rfl,hv,bn,fun hf H1 s1=> ?_,fun hc z H1 rs s1 ro hz=> ?_⟩
 · refine ⟨C,rfl,L.ex,fun a na=> ?_⟩
   have s2:=ae (o:=Cau C a) na
   refine ⟨_,rfl,a,rfl,aa,fun H3 s3=> ?_⟩
   refine ⟨_,rfl,_,rfl,by show 2≤sizeLine;decide,fun q nq=> ?_⟩
   exact kF hf q _ (s1.trans (s2.trans (s3.trans (ae nq)))) aa
 · refine ⟨_,rfl,_,rfl,by show 2≤sizeLine;decide,fun q nq=> ?_⟩
   exact kT hc q z _ rs (s1.trans (ae nq)) ro (hz.mono (Kd.of_same (ae nq))) aa
end
end K25
namespace St8
open PySem
theorem nd_ix {l:List Nat} (h:l.Nodup) {i j:Nat} {x:Nat} (h1:l[i]?=some x) (h2:l[j]?=some x):i=j:=by
 obtain ⟨hi,e1⟩:=zd.mp h1
 obtain ⟨hj,e2⟩:=zd.mp h2
 have n:=List.nodup_iff_pairwise_ne.mp h
 rw [List.pairwise_iff_getElem] at n
 rcases Nat.lt_trichotomy i j with q|q|q
 · exact absurd (e1.trans e2.symm) (n i j hi hj q)
 · exact q
 · exact absurd (e2.trans e1.symm) (n j i hj hi q)
open PySem PySem.Spec PyProof.Rows L2 Tk
theorem ie:∀(n:Nat) {prog:Program} {w:World} {A:Around} {E:Value→Shared→Prop} {s:Shared} {t:KT} {v:Value} {Q:Bool→Shared→Prop},KAt s.heap v t→t.depth≤n→Q false s→wpAny (model prog w) A (ofAClassStatement n v) Q E s:=by
 have leaf:∀(n:Nat) {prog:Program} {w:World} {A:Around} {E:Value→Shared→Prop} {s:Shared} {k:Key} {v:Value} {Q:Bool→Shared→Prop},gk k v=true→Q false s→wpAny (model prog w) A (ofAClassStatement n v) Q E s:=by
  intro n prog w A E s k v Q h q
  rcases aO h with ⟨i,t,_,rfl⟩|⟨x,t,_,rfl⟩<;>(unfold ofAClassStatement;exact wpAny_pure q)
 intro n
 induction n with
 |zero=>
  intro prog w A E s t v Q h hd q
  cases t with
  |tp ts=>simp [KT.depth] at hd
  |lf k=>
   unfold KAt at h
   exact leaf 0 h q
 |succ n ih=>
  intro prog w A E s t v Q h hd q
  cases t with
  |lf k=>
   unfold KAt at h
   exact leaf _ h q
  |tp ts=>
   unfold KAt at h
   obtain ⟨a,o,items,m,rfl,g,c,d,r⟩:=h
   have ty:s.TypeIs (.ref a) "tuple":=⟨o,g,c⟩
   have hd':KTs.depth ts≤n:=by
    unfold KT.depth at hd
    omega
   unfold ofAClassStatement
   refine wpAny_bind (wpAny_typeOf ty ?_)
   simp only [beq_self_eq_true,if_true]
   refine wpAny_bind (wpAny_pure ?_)
   simp only [Bool.not_true,if_false,zy]
   refine wpAny_bind (wpAny_seqItems g d ?_)
   refine wpAny_bind ?_
   show wpAny _ _ (forIn items _ _) _ _ _
   rw [←Array.forIn_toList]
   refine wpAny_forIn_list _ (fun rest b s'=>b.1=none∧s'=s∧∃left,KsAt s.heap rest left∧KTs.depth left≤n) _ ?_ ?_ _ _ ⟨rfl,rfl,ts,r,hd'⟩
   · rintro x rest b s' ⟨hb,rfl,left,hl,hd2⟩
     cases left with
     |nil=>
      unfold KsAt at hl
      cases hl
     |cons t left=>
      unfold KsAt at hl
      obtain ⟨v,rr,e,h1,h2⟩:=hl
      cases e
      unfold KTs.depth at hd2
      refine wpAny_bind (ih h1 (by omega) ?_)
      simp only [if_false,zy]
      exact wpAny_pure ⟨rfl,rfl,left,h2,by omega⟩
   · rintro ⟨b1,b2⟩ s' ⟨hb,rfl,_⟩
     simp only at hb
     subst hb
     exact wpAny_pure q
theorem hbv_at:∀(n:Nat) {prog:Program} {w:World} {A:Around} {E:Value→Shared→Prop} {s:Shared} {t:KT} {v:Value} {Q:Bool→Shared→Prop},KAt s.heap v t→(∀b,Q b s)→wpAny (model prog w) A (hashByValue n v) Q E s:=by
 have leaf:∀(n:Nat) {prog:Program} {w:World} {A:Around} {E:Value→Shared→Prop} {s:Shared} {k:Key} {v:Value} {Q:Bool→Shared→Prop},gk k v=true→(∀b,Q b s)→wpAny (model prog w) A (hashByValue n v) Q E s:=by
  intro n prog w A E s k v Q h q
  rcases aO h with ⟨i,t,_,rfl⟩|⟨x,t,_,rfl⟩<;>(cases n<;>(unfold hashByValue;exact wpAny_pure (q _)))
 intro n
 induction n with
 |zero=>
  intro prog w A E s t v Q h q
  cases t with
  |tp ts=>
   unfold KAt at h
   obtain ⟨a,o,items,m,rfl,g,c,d,r⟩:=h
   unfold hashByValue
   exact wpAny_pure (q _)
  |lf k=>
   unfold KAt at h
   exact leaf 0 h q
 |succ n ih=>
  intro prog w A E s t v Q h q
  cases t with
  |lf k=>
   unfold KAt at h
   exact leaf _ h q
  |tp ts=>
   unfold KAt at h
   obtain ⟨a,o,items,m,rfl,g,c,d,r⟩:=h
   have ty:s.TypeIs (.ref a) "tuple":=⟨o,g,c⟩
   unfold hashByValue
   refine wpAny_bind (wpAny_specialOf ty F.slot_tuple_hash.lookup ?_)
   refine wpAny_bind (wpAny_seqItems g d (wpAny_bind ?_))
   show wpAny _ _ (forIn items _ _) _ _ _
   rw [←Array.forIn_toList]
   refine wpAny_forIn_list _ (fun rest b s'=>b.1=none∧s'=s∧∃left,KsAt s.heap rest left) _ ?_ ?_ _ _ ⟨rfl,rfl,ts,r⟩
   · rintro x rest b s' ⟨hb,rfl,left,hl⟩
     cases left with
     |nil=>
      unfold KsAt at hl
      cases hl
     |cons t left=>
      unfold KsAt at hl
      obtain ⟨v,rr,e,h1,h2⟩:=hl
      cases e
      refine wpAny_bind (ih h1 fun bb=> ?_)
      cases bb with
      |true=>
       simp only [Bool.not_true,if_false,zy]
       exact wpAny_pure ⟨rfl,rfl,left,h2⟩
      |false=>
       simp only [Bool.not_false,if_true]
       exact wpAny_pure (wpAny_pure (q _))
   · rintro ⟨b1,b2⟩ s' ⟨hb,rfl,_⟩
     simp only at hb
     subst hb
     exact wpAny_pure (q _)
section
variable {prog:Program} {w:World} {A:Around} {X:Value→Shared→Prop} {s:Shared} {a:Addr} {m:Nat} {E:Nat→Int×Value} {kf:Nat→KT} {o:Obj} {es:Array (Int×Value)} {ep:Nat} {t:SetTable} {b0:Bool}
theorem scs_at {x:Value} {kt:KT} (hxr:∃c,x= .ref c) (hx:KAt s.heap x kt) (hd:kt.depth≤8) {l:List Value} {Q:Bool→Shared→Prop} (hl:∀y∈l,∃t,KAt s.heap y t∧t.depth≤8∧∃b,y= .ref b) (q:Q false s):wpAny (model prog w) A (searchCouldBeSeen x l) Q X s:=by
 unfold searchCouldBeSeen
 refine wpAny_bind ?_
 refine wpAny_forIn_list _ (fun rest b s'=>b.1=none∧s'=s∧∀y∈rest,y∈l) _ ?_ ?_ _ _ ⟨rfl,rfl,fun y m=>m⟩
 · rintro y rest b s' ⟨hb,rfl,hm⟩
   obtain ⟨t,h1,h2,⟨b',rfl⟩⟩:=hl y (hm y yY)
   obtain ⟨c,rfl⟩:=hxr
   have go:∀y∈rest,y∈l:=fun y m=>hm y (z6 _ m)
   dsimp only
   split
   · exact wpAny_pure ⟨rfl,rfl,go⟩
   · refine wpAny_bind (lX 8 hx hd ?_)
     simp only [Bool.not_true,zy,if_false]
     refine wpAny_bind (lX 8 h1 h2 ?_)
     simp only [Bool.not_true,zy,if_false]
     refine wpAny_bind (ie 8 hx hd ?_)
     simp only [zy,if_false]
     refine wpAny_bind (ie 8 h1 h2 ?_)
     simp only [zy,if_false]
     exact wpAny_pure ⟨rfl,rfl,go⟩
 · rintro ⟨b1,b2⟩ s' ⟨hb,rfl,_⟩
   simp only at hb
   subst hb
   exact wpAny_pure q
end
open PySem PySem.Spec PyProof.Rows L2 Tk
noncomputable def setE {α:Type} (E:Nat→α) (j:Nat) (x:α):Nat→α:=fun i=>if i=j then x else E i
section
variable {prog:Program} {w:World} {A:Around} {X:Value→Shared→Prop} {s:Shared} {a:Addr} {m:Nat} {E:Nat→Int×Value} {kf:Nat→KT} {o:Obj} {es:Array (Int×Value)} {ep:Nat} {t:SetTable} {b0:Bool}
end
open PySem PySem.Spec PyProof.Rows L2 Tk
end St8
namespace Sn
open PySem PySem.Spec PyProof.Rows
def Up (l:List Nat):Prop:=l.Pairwise (· < ·)
theorem Up.le {l:List Nat} (h:Up l) {i j x y:Nat} (hi:l[i]?=some x) (hj:l[j]?=some y) (hij:i≤j):x≤y:=by
 obtain ⟨h1,e1⟩:=zd.mp hi
 obtain ⟨h2,e2⟩:=zd.mp hj
 rcases Nat.lt_or_ge i j with c|c
 · have:=List.pairwise_iff_getElem.mp h i j h1 h2 c
   omega
 · have:i=j:=by omega
   subst this
   omega
theorem jp (xs:Array Nat) (j:Nat) (up:Up xs.toList):∀(fuel lo hi:Nat),hi - lo≤fuel→lo≤hi→hi≤xs.size→(∀i x,i < lo→xs.toList[i]?=some x→x < j)→(∀i x,hi≤i→xs.toList[i]?=some x→j≤x)→
 SetTable.below.go xs j fuel lo hi≤xs.size∧(∀i x,i < SetTable.below.go xs j fuel lo hi→xs.toList[i]?=some x→x < j)∧(∀i x,SetTable.below.go xs j fuel lo hi≤i→xs.toList[i]?=some x→j≤x)
 |0,lo,hi,hf,h1,h2,h3,h4=>by
  have:lo=hi:=by omega
  subst this
  unfold SetTable.below.go
  exact ⟨h2,h3,h4⟩
 |fuel+1,lo,hi,hf,h1,h2,h3,h4=>by
  unfold SetTable.below.go
  by_cases c:lo < hi
  · rw [if_pos c]
    have hm:(lo+hi) / 2 < xs.size:=by omega
    have em:xs.getD ((lo+hi) / 2) j=xs[(lo+hi) / 2]:=by rw [zY,zW hm];rfl
    have el:xs.toList[(lo+hi) / 2]?=some xs[(lo+hi) / 2]:=by rw [zP,zW hm]
    dsimp only
    rw [em]
    by_cases d:xs[(lo+hi) / 2] < j
    · rw [if_pos d]
      refine jp xs j up fuel _ _ (by omega) (by omega) h2 (fun i x hi' e=> ?_) h4
      have:=up.le e el (by omega)
      omega
    · rw [if_neg d]
      refine jp xs j up fuel _ _ (by omega) (by omega) (by omega) h3 fun i x hi' e=> ?_
      have:=up.le el e (by omega)
      omega
  · rw [if_neg c]
    have:lo=hi:=by omega
    subst this
    exact ⟨h2,h3,h4⟩
theorem jA {xs:Array Nat} (up:Up xs.toList) (j:Nat):SetTable.below xs j≤xs.size∧(∀i x,i < SetTable.below xs j→xs.toList[i]?=some x→x < j)∧(∀i x,SetTable.below xs j≤i→xs.toList[i]?=some x→j≤x):=by
 unfold SetTable.below
 refine jp xs j up _ _ _ (by omega) (zG _) (yZ _) (fun i x h _=>by omega) fun i x h e=> ?_
 have:=(zd.mp e).1
 rw [zk] at this
 omega
theorem qS {xs:Array Nat} (up:Up xs.toList) {j:Nat} (h:¬xs[SetTable.below xs j]?=some j):j∉xs.toList:=by
 intro m
 obtain ⟨i,hi,e⟩:=zX m
 have e':xs.toList[i]?=some j:=by rw [yX hi,e]
 obtain ⟨h1,h2,h3⟩:=jA up j
 rcases Nat.lt_or_ge i (SetTable.below xs j) with c|c
 · have:=h2 i j c e'
   omega
 · have hb:SetTable.below xs j < xs.toList.length:=by omega
   have e2:xs.toList[SetTable.below xs j]?=some xs.toList[SetTable.below xs j]:=yX hb
   have l1:=h3 _ _ (yZ _) e2
   have l2:=up.le e2 e' c
   refine h ?_
   rw [←zP,e2]
   congr 1
   omega
theorem xh {t:SetTable} (up:Up t.place.toList) {j:Nat} (h:j∉t.place.toList):Up (t.put j).1.place.toList:=by
 show Up (SetTable.insertAt t.place (SetTable.below t.place j) j).toList
 obtain ⟨h1,h2,h3⟩:=jA up j
 rw [SetTable.toList_insertAt]
 have hs:Up (t.place.toList.take (SetTable.below t.place j)++t.place.toList.drop (SetTable.below t.place j)):=by rw [A1];exact up
 obtain ⟨p1,p2,p3⟩:=Ac.mp hs
 refine Ac.mpr ⟨p1,Aa.mpr ⟨fun x m=> ?_,p2⟩,fun x m y m'=> ?_⟩
 · obtain ⟨i,e⟩:=List.mem_iff_getElem?.mp m
   rw [List.getElem?_drop] at e
   have:=h3 _ x (by omega) e
   have ne:x≠j:=fun z=>h (z▸z7 e)
   omega
 · obtain ⟨i,e⟩:=List.mem_iff_getElem?.mp m
   have hx:x < j:=by
    rw [List.getElem?_take] at e
    by_cases c:i < SetTable.below t.place j
    · rw [if_pos c] at e
      exact h2 i x c e
    · rw [if_neg c] at e
      cases e
   rcases zc.mp m' with rfl|m'
   · exact hx
   · exact p3 x m y m'
theorem sr (n:Nat):Up (List.range n):=List.pairwise_lt_range
theorem rL (t:SetTable) (n:Nat):Up (t.standIn n).place.toList:=by
 show Up (Array.range n).toList
 rw [Array.toList_range]
 exact sr n
structure Tk (b:Bool) (t:SetTable):Prop where
 led:t.led=b
 up:Up t.place.toList
theorem Tk.stand {b:Bool} {t:SetTable} (h:Tk b t) (n:Nat):Tk b (t.standIn n):=⟨h.led,rL t n⟩
end Sn
namespace Sg
open PySem PySem.Spec PyProof.Rows L2 Tk Sn
theorem iU {α:Type}:∀ {l U:List α},l.Nodup→(∀x∈l,x∈U)→l.length≤U.length
 | [],U,_,_=>zG _
 |x::l,U,h,hs=>by
  obtain ⟨h1,h2⟩:=zU.mp h
  obtain ⟨a,b,rfl⟩:=List.append_of_mem (hs x yY)
  have:l.length≤(a++b).length:=iU h2 fun y my=>by
   have:=hs y (z6 _ my)
   simp only [zf,zc] at this ⊢
   rcases this with h|rfl|h
   · exact .inl h
   · exact absurd my h1
   · exact .inr h
  simp only [z9,zw] at this ⊢
  omega
noncomputable def adv (M:Nat) (p:SetTable.Probe):SetTable.Probe:=if p.more > 0 then {p with j:=p.j+1,more:=p.more - 1} else
 {p with j:=(SetTable.leap M p.i p.perturb).1,more:=SetTable.runEnd M (SetTable.leap M p.i p.perturb).1 - (SetTable.leap M p.i p.perturb).1,i:=(SetTable.leap M p.i p.perturb).1,perturb:=(SetTable.leap M p.i p.perturb).2}
theorem y9 (t:SetTable) (p:SetTable.Probe):t.advance p=adv t.mask p:=rfl
noncomputable def st (M:Nat) (h:Int):SetTable.Probe:= {j:=SetTable.bits h%(M+1),more:=SetTable.runEnd M (SetTable.bits h%(M+1)) - SetTable.bits h%(M+1),i:=SetTable.bits h%(M+1),perturb:=SetTable.bits h,dummy:=none}
noncomputable def pr (M:Nat) (h:Int):Nat→SetTable.Probe
 |0=>st M h
 |k+1=>adv M (pr M h k)
noncomputable def sq (M:Nat) (h:Int) (k:Nat):Nat:=(pr M h k).j
structure Pg (M:Nat) (p:SetTable.Probe):Prop where
 lt:p.j+p.more≤M
 nine:p.more≤9
 du:p.dummy=none
theorem iC {M i:Nat} (h:i≤M):i+(SetTable.runEnd M i - i)≤M∧SetTable.runEnd M i - i≤9∧SetTable.runEnd M i+1 - i=SetTable.runEnd M i - i+1:=by
 unfold SetTable.runEnd
 split<;>omega
theorem pD (M i p:Nat):(SetTable.leap M i p).1≤M:=by
 have:=Nat.mod_lt (i*5+1+p / 32) (show 0 < M+1 by omega)
 show (i*5+1+p / 32)%(M+1)≤M
 omega
theorem pg (M:Nat) (h:Int):∀k,Pg M (pr M h k)
 |0=>by
  have:SetTable.bits h%(M+1)≤M:=by
   have:=Nat.mod_lt (SetTable.bits h) (show 0 < M+1 by omega)
   omega
  exact ⟨(iC this).1,(iC this).2.1,rfl⟩
 |k+1=>by
  have g:=pg M h k
  show Pg M (adv M (pr M h k))
  unfold adv
  split
  · exact ⟨by have:=g.lt;show (pr M h k).j+1+((pr M h k).more - 1)≤M;omega,by have:=g.nine;show (pr M h k).more - 1≤9;omega,g.du⟩
  · have:=pD M (pr M h k).i (pr M h k).perturb
    exact ⟨(iC this).1,(iC this).2.1,g.du⟩
theorem wm (M:Nat) (h:Int) (k:Nat):sq M h k≤M:=by
 have:=(pg M h k).lt
 unfold sq
 omega
theorem nW (M:Nat) (h:Int) (k:Nat):∀m,m≤(pr M h k).more→pr M h (k+m)= {pr M h k with j:=(pr M h k).j+m,more:=(pr M h k).more - m}
 |0,_=>rfl
 |m+1,hm=>by
  have ih:=nW M h k m (by omega)
  show adv M (pr M h (k+m))=_
  rw [ih]
  unfold adv
  rw [if_pos (by show (pr M h k).more - m > 0;omega)]
  show SetTable.Probe.mk ((pr M h k).j+m+1) ((pr M h k).more - m - 1) _ _ _=_
  rfl
noncomputable def lp (M:Nat) (h:Int):Nat→Nat×Nat
 |0=>(SetTable.bits h%(M+1),SetTable.bits h)
 |l+1=>SetTable.leap M (lp M h l).1 (lp M h l).2
structure Lp (M:Nat) (h:Int) (l k:Nat):Prop where
 j:(pr M h k).j=(lp M h l).1
 i:(pr M h k).i=(lp M h l).1
 p:(pr M h k).perturb=(lp M h l).2
 m:(pr M h k).more=SetTable.runEnd M (lp M h l).1 - (lp M h l).1
theorem Lp.next {M:Nat} {h:Int} {l k:Nat} (L:Lp M h l k):Lp M h (l+1) (k+(pr M h k).more+1):=by
 have e:=nW M h k (pr M h k).more (yZ _)
 have e2:pr M h (k+(pr M h k).more+1)=adv M (pr M h (k+(pr M h k).more)):=rfl
 have hz:¬((pr M h k).more - (pr M h k).more > 0):=by omega
 have e3:pr M h (k+(pr M h k).more+1)= {pr M h k with j:=(SetTable.leap M (pr M h k).i (pr M h k).perturb).1,more:=SetTable.runEnd M (SetTable.leap M (pr M h k).i (pr M h k).perturb).1 - (SetTable.leap M (pr M h k).i (pr M h k).perturb).1,i:=(SetTable.leap M (pr M h k).i (pr M h k).perturb).1,perturb:=(SetTable.leap M (pr M h k).i (pr M h k).perturb).2}:=by
  rw [e2,e]
  unfold adv
  rw [if_neg hz]
 have q:SetTable.leap M (pr M h k).i (pr M h k).perturb=lp M h (l+1):=by rw [L.i,L.p];rfl
 rw [q] at e3
 exact ⟨by rw [e3],by rw [e3],by rw [e3],by rw [e3]⟩
theorem wB (M:Nat) (h:Int):∀l,∃k,k≤10*l∧Lp M h l k
 |0=>⟨0,yZ _,⟨rfl,rfl,rfl,rfl⟩⟩
 |l+1=>by
  obtain ⟨k,hk,L⟩:=wB M h l
  have:=(pg M h k).nine
  exact ⟨_,by omega,L.next⟩
theorem tP (M:Nat) (h:Int):∀l,(lp M h l).2=SetTable.bits h / 32^l
 |0=>by simp [lp]
 |l+1=>by
  show (lp M h l).2 / 32=_
  rw [tP M h l,Nat.div_div_eq_div_mul,Nat.pow_succ]
theorem lp_z (M:Nat) (h:Int):(lp M h 13).2=0:=by
 rw [tP]
 refine Nat.div_eq_of_lt ?_
 have:SetTable.bits h < 2^64:=by
  unfold SetTable.bits
  omega
 exact zl this (by decide)
noncomputable def lcg (M:Nat):Nat→Nat→Nat
 |0,i=>i
 |n+1,i=>lcg M n ((i*5+1)%(M+1))
theorem mV (M:Nat):∀n i,lcg M (n+1) i=(lcg M n i*5+1)%(M+1)
 |0,i=>rfl
 |n+1,i=>by
  show lcg M (n+1) ((i*5+1)%(M+1))=_
  rw [mV M n]
  rfl
theorem tR (M:Nat) (h:Int):∀n,lp M h (13+n)=(lcg M n (lp M h 13).1,0)
 |0=>Prod.ext rfl (lp_z M h)
 |n+1=>by
  show SetTable.leap M (lp M h (13+n)).1 (lp M h (13+n)).2=_
  rw [tR M h n,mV]
  show ((lcg M n (lp M h 13).1*5+1+0 / 32)%(M+1),0 / 32)=_
  rw [Nat.zero_div,Nat.add_zero]
theorem uh:(([7,31].all fun M=>(List.range (M+1)).all fun i=>(List.range (M+1)).all fun s=>(List.range (M+1)).any fun n=>lcg M n i==s))=true:=by decide +kernel
theorem full {M:Nat} (hM:M=7∨M=31) {i s:Nat} (hi:i≤M) (hs:s≤M):∃n,n≤M∧lcg M n i=s:=by
 have h1:=Ag.mp uh M (by rcases hM with rfl|rfl<;>simp)
 have h2:=Ag.mp h1 i (zN.mpr (by omega))
 have h3:=Ag.mp h2 s (zN.mpr (by omega))
 obtain ⟨n,hn,e⟩:=Af.mp h3
 exact ⟨n,by have:=zN.mp hn;omega,by simpa using e⟩
theorem tQ (M:Nat) (h:Int):∀l,(lp M h l).1≤M
 |0=>by
  have:=Nat.mod_lt (SetTable.bits h) (show 0 < M+1 by omega)
  show SetTable.bits h%(M+1)≤M
  omega
 |l+1=>pD M _ _
theorem wC {M:Nat} (hM:M=7∨M=31) (h:Int) {s:Nat} (hs:s≤M):∃l,l≤M+13∧(lp M h l).1=s:=by
 obtain ⟨n,hn,e⟩:=full hM (tQ M h 13) hs
 exact ⟨13+n,by omega,by rw [tR];exact e⟩
theorem jK {M:Nat} {P:List Nat} (hP:P.length≤M):∃s,s≤M∧s∉P:=by
 refine Classical.byContradiction fun no=> ?_
 have:(List.range (M+1)).length≤P.length:=iU List.nodup_range fun x m=>Classical.byContradiction fun q=>no ⟨x,by have:=zN.mp m;omega,q⟩
 rw [List.length_range] at this
 omega
theorem vP {M:Nat} (hM:M=7∨M=31) {P:List Nat} (hP:P.length≤M) (h:Int):∃k,k≤10*(M+13)∧sq M h k∉P:=by
 obtain ⟨s,hs,ns⟩:=jK hP
 obtain ⟨l,hl,e⟩:=wC hM h hs
 obtain ⟨k,hk,L⟩:=wB M h l
 exact ⟨k,by omega,by unfold sq;rw [L.j,e];exact ns⟩
structure Tb (t:SetTable) (M:Nat) (P:List Nat):Prop where
 mask:t.mask=M
 place:t.place.toList=P
 dum:t.dummies= #[]
 up:Up P
 lt:∀j∈P,j≤M
theorem iX {t:SetTable} {M j:Nat} {P:List Nat} (T:Tb t M P) (hj:j∈P):∃i,t.slot j= .live i∧P[i]?=some j:=by
 have up:Up t.place.toList:=by rw [T.place];exact T.up
 have e:t.place[SetTable.below t.place j]?=some j:=Classical.byContradiction fun q=>qS up q (by rw [T.place];exact hj)
 refine ⟨SetTable.below t.place j,?_,?_⟩
 · unfold SetTable.slot
   simp only [e,beq_self_eq_true,if_true]
 · rw [←T.place,zP]
   exact e
theorem tJ (j:Nat):SetTable.has #[] j=false:=by
 unfold SetTable.has
 simp [SetTable.below,SetTable.below.go]
theorem rW {t:SetTable} {M j:Nat} {P:List Nat} (T:Tb t M P) (hj:j∉P):t.slot j= .empty:=by
 have e:(t.place[SetTable.below t.place j]?==some j)=false:=by
  refine beq_eq_false_iff_ne.mpr fun q=>hj ?_
  rw [←T.place]
  exact Array.mem_toList_iff.mpr (Array.mem_of_getElem? q)
 unfold SetTable.slot
 rw [T.dum,tJ]
 simp only [e,zy,if_false]
theorem Up.nd {P:List Nat} (h:Up P):P.Nodup:=by
 refine List.nodup_iff_pairwise_ne.mpr (List.Pairwise.imp (fun q=> ?_) h)
 omega
theorem sK {t:SetTable} {M:Nat} {P:List Nat} (T:Tb t M P) (hashAt:Nat→Int) (h:Int):∀(n k fuel:Nat),sq M h (k+n)∉P→n < fuel→
 (∃k',k≤k'∧k'≤k+n∧SetTable.probe.go t hashAt h fuel (pr M h k)=some (.empty (sq M h k') none)∧sq M h k'∉P∧∀q,k≤q→q < k'→sq M h q∈P∧∀i,P[i]?=some (sq M h q)→hashAt i≠h)∨
 (∃k' i,k≤k'∧k' < k+n∧SetTable.probe.go t hashAt h fuel (pr M h k)=some (.candidate (sq M h k') i (pr M h (k'+1)))∧P[i]?=some (sq M h k')∧hashAt i=h∧t.slot (sq M h k')= .live i∧∀q,k≤q→q < k'→sq M h q∈P∧∀i,P[i]?=some (sq M h q)→hashAt i≠h):=by
 have ad:∀k,t.advance (pr M h k)=pr M h (k+1):=fun k=>by rw [y9,T.mask];rfl
 have stop:∀k fuel,sq M h k∉P→SetTable.probe.go t hashAt h (fuel+1) (pr M h k)=some (.empty (sq M h k) none):=fun k fuel hb=>by
  rw [SetTable.probe.go]
  have e:t.slot (pr M h k).j= .empty:=rW T hb
  rw [e,(pg M h k).du]
  rfl
 intro n
 induction n with
 |zero=>
  intro k fuel hf hn
  obtain ⟨fuel,rfl⟩:∃f,fuel=f+1:=⟨fuel - 1,by omega⟩
  exact .inl ⟨k,yZ _,yZ _,stop k fuel hf,hf,fun q h1 h2=>by omega⟩
 |succ n ih=>
  intro k fuel hf hn
  obtain ⟨fuel,rfl⟩:∃f,fuel=f+1:=⟨fuel - 1,by omega⟩
  by_cases hb:sq M h k∈P
  · obtain ⟨i,e,hi⟩:=iX T hb
    have e':t.slot (pr M h k).j= .live i:=e
    by_cases hh:hashAt i=h
    · refine .inr ⟨k,i,yZ _,by omega,?_,hi,hh,e,fun q h1 h2=>by omega⟩
      rw [SetTable.probe.go]
      rw [e']
      simp only [hh,beq_self_eq_true,if_true,ad]
      rfl
    · have step:SetTable.probe.go t hashAt h (fuel+1) (pr M h k)=SetTable.probe.go t hashAt h fuel (pr M h (k+1)):=by
       rw [SetTable.probe.go]
       rw [e']
       have:(hashAt i==h)=false:=by simpa using hh
       simp only [this,zy,if_false,ad]
      have here:∀q,q=k→sq M h q∈P∧∀i,P[i]?=some (sq M h q)→hashAt i≠h:=fun q hq=>by
       subst hq
       refine ⟨hb,fun j hj=> ?_⟩
       rw [St8.nd_ix (Up.nd T.up) hj hi]
       exact hh
      rcases ih (k+1) fuel (by rw [show k+1+n=k+(n+1) by omega];exact hf) (by omega) with ⟨k',a1,a2,a3,a4,a5⟩|⟨k',i',a1,a2,a3,a4,a5,a6,a7⟩
      · refine .inl ⟨k',by omega,by omega,step.trans a3,a4,fun q h1 h2=> ?_⟩
        by_cases z:q=k
        · exact here q z
        · exact a5 q (by omega) h2
      · refine .inr ⟨k',i',by omega,by omega,step.trans a3,a4,a5,a6,fun q h1 h2=> ?_⟩
        by_cases z:q=k
        · exact here q z
        · exact a7 q (by omega) h2
  · exact .inl ⟨k,yZ _,by omega,stop k fuel hb,hb,fun q h1 h2=>by omega⟩
theorem rK {t:SetTable} {M:Nat} {P:List Nat} (T:Tb t M P) (h:Int):t.probeStart h=pr M h 0:=by
 unfold SetTable.probeStart
 rw [T.mask]
 rfl
def occ (ow:Array (Option Nat)) (j:Nat):Prop:=∃k,ow[j]?=some (some k)
theorem vO {M:Nat} (h:Int) (ow:Array (Option Nat)) (hs:ow.size=M+1):∀(n fuel l kl:Nat),Lp M h l kl→n < fuel→¬occ ow (lp M h (l+n)).1→
 ∃q,SetTable.layClean.free M ow fuel (lp M h l).1 (lp M h l).2=some (sq M h q)∧kl≤q∧¬occ ow (sq M h q)∧∀q',kl≤q'→q' < q→occ ow (sq M h q'):=by
 intro n
 induction n with
 |zero=>
  intro fuel l kl L hn hf
  obtain ⟨fuel,rfl⟩:∃f,fuel=f+1:=⟨fuel - 1,by omega⟩
  have i0:=tQ M h l
  have gd:∀j,j≤M→((ow.getD j (some 0)).isNone=true↔¬occ ow j):=fun j hj=>by
   rw [zY]
   have:j < ow.size:=by omega
   rw [zW this]
   simp only [Option.getD_some]
   unfold occ
   rw [zW this]
   cases ow[j] with
   |none=>simp
   |some k=>simp
  refine ⟨kl,?_,yZ _,?_,fun q' h1 h2=>by omega⟩
  · rw [SetTable.layClean.free]
    have e:(List.range (SetTable.runEnd M (lp M h l).1+1 - (lp M h l).1)).find? (fun k=>(ow.getD ((lp M h l).1+k) (some 0)).isNone)=some 0:=by
     refine List.find?_range_eq_some.mpr ⟨(gd _ i0).mpr hf,zN.mpr ?_,fun j hj=>by omega⟩
     rw [(iC i0).2.2]
     omega
    rw [e]
    show some ((lp M h l).1+0)=some (sq M h kl)
    unfold sq
    rw [L.j]
    rfl
  · unfold sq
    rw [L.j]
    exact hf
 |succ n ih=>
  intro fuel l kl L hn hf
  obtain ⟨fuel,rfl⟩:∃f,fuel=f+1:=⟨fuel - 1,by omega⟩
  have i0:=tQ M h l
  have gd:∀j,j≤M→((ow.getD j (some 0)).isNone=true↔¬occ ow j):=fun j hj=>by
   rw [zY]
   have:j < ow.size:=by omega
   rw [zW this]
   simp only [Option.getD_some]
   unfold occ
   rw [zW this]
   cases ow[j] with
   |none=>simp
   |some k=>simp
  obtain ⟨r1,r2,r3⟩:=iC i0
  have at_:∀m,m≤(pr M h kl).more→sq M h (kl+m)=(lp M h l).1+m:=fun m hm=>by
   unfold sq
   rw [nW M h kl m hm]
   show (pr M h kl).j+m=_
   rw [L.j]
  have mm:=L.m
  rw [SetTable.layClean.free]
  cases e:(List.range (SetTable.runEnd M (lp M h l).1+1 - (lp M h l).1)).find? (fun k=>(ow.getD ((lp M h l).1+k) (some 0)).isNone) with
  |some k=>
   obtain ⟨p1,p2,p3⟩:=List.find?_range_eq_some.mp e
   have hk:=zN.mp p2
   refine ⟨kl+k,by rw [at_ k (by omega)],by omega,?_,fun q' h1 h2=> ?_⟩
   · rw [at_ k (by omega)]
     exact (gd _ (by omega)).mp p1
   · have:=p3 (q' - kl) (by omega)
     rw [show q'=kl+(q' - kl) by omega,at_ (q' - kl) (by omega)]
     refine Classical.byContradiction fun no=> ?_
     rw [(gd _ (by omega)).mpr no] at this
     cases this
  |none=>
   have all:=List.find?_eq_none.mp e
   obtain ⟨q,a1,a2,a3,a4⟩:=ih fuel (l+1) _ L.next (by omega) (by rw [show l+1+n=l+(n+1) by omega];exact hf)
   refine ⟨q,a1,by omega,a3,fun q' h1 h2=> ?_⟩
   rcases Nat.lt_or_ge (kl+(pr M h kl).more) q' with c|c
   · exact a4 q' (by omega) h2
   · rw [show q'=kl+(q' - kl) by omega,at_ (q' - kl) (by omega)]
     refine Classical.byContradiction fun no=>all (q' - kl) (zN.mpr (by omega)) ((gd _ (by omega)).mpr no)
structure Ow (M:Nat) (hs:List Int) (ow:Array (Option Nat)) (f:Nat→Nat):Prop where
 size:ow.size=M+1
 at_:∀k,k < hs.length→ow[f k]?=some (some k)
 only:∀j k,ow[j]?=some (some k)→k < hs.length∧f k=j
 way:∀k h,hs[k]?=some h→∃q,sq M h q=f k∧∀q',q' < q→occ ow (sq M h q')
theorem Ow.occ {M:Nat} {hs:List Int} {ow:Array (Option Nat)} {f:Nat→Nat} (o:Ow M hs ow f) {j:Nat} (h:Sg.occ ow j):j∈(List.range hs.length).map f:=by
 obtain ⟨k,e⟩:=h
 obtain ⟨h1,h2⟩:=o.only j k e
 exact zx.mpr ⟨k,zN.mpr h1,h2⟩
theorem tT {M:Nat} (hM:M=7∨M=31) {hs:List Int} {ow:Array (Option Nat)} {f:Nat→Nat} (o:Ow M hs ow f) (hl:hs.length≤M) (h:Int):
 ∃j f',SetTable.layClean.free M ow (SetTable.turns M) (SetTable.bits h%(M+1)) (SetTable.bits h)=some j∧Ow M (hs++ [h]) (ow.setIfInBounds j (some hs.length)) f':=by
 obtain ⟨s,s1,s2⟩:=jK (M:=M) (P:=(List.range hs.length).map f) (by rw [yW,List.length_range];exact hl)
 obtain ⟨l,hll,e⟩:=wC hM h s1
 obtain ⟨q,a1,a2,a3,a4⟩:=vO h ow o.size l (SetTable.turns M) 0 0 ⟨rfl,rfl,rfl,rfl⟩ (by unfold SetTable.turns;omega) (by rw [Nat.zero_add,e];exact fun z=>s2 (o.occ z))
 have jl:sq M h q < ow.size:=by
  have:=wm M h q
  have:=o.size
  omega
 have old:∀k,k < hs.length→f k≠sq M h q:=fun k hk z=>a3 ⟨k,by rw [←z];exact o.at_ k hk⟩
 have get:∀j,(ow.setIfInBounds (sq M h q) (some hs.length))[j]?=if sq M h q=j then some (some hs.length) else ow[j]?:=fun j=>by
  rw [Array.getElem?_setIfInBounds]
  by_cases z:sq M h q=j
  · rw [if_pos z,if_pos jl,if_pos z]
  · rw [if_neg z,if_neg z]
 have occ':∀j,Sg.occ ow j→Sg.occ (ow.setIfInBounds (sq M h q) (some hs.length)) j:=fun j ⟨k,e⟩=>by
  refine ⟨k,?_⟩
  rw [get,if_neg (fun z=>a3 ⟨k,by rw [z];exact e⟩)]
  exact e
 refine ⟨sq M h q,fun k=>if k=hs.length then sq M h q else f k,a1,⟨by rw [Array.size_setIfInBounds];exact o.size,fun k hk=> ?_,fun j k ek=> ?_,fun k h' ek=> ?_⟩⟩
 · rw [z9,zO] at hk
   rw [get]
   by_cases z:k=hs.length
   · rw [if_pos z,if_pos rfl,z]
   · rw [if_neg z,if_neg (fun q=>old k (by omega) q.symm)]
     exact o.at_ k (by omega)
 · rw [get] at ek
   rw [z9,zO]
   by_cases z:sq M h q=j
   · rw [if_pos z] at ek
     have:hs.length=k:=by cases ek;rfl
     subst this
     exact ⟨by omega,by rw [if_pos rfl];exact z⟩
   · rw [if_neg z] at ek
     obtain ⟨h1,h2⟩:=o.only j k ek
     exact ⟨by omega,by rw [if_neg (by omega)];exact h2⟩
 · by_cases z:k < hs.length
   · rw [zV z] at ek
     obtain ⟨p,b1,b2⟩:=o.way k h' ek
     exact ⟨p,by rw [if_neg (by omega)];exact b1,fun q' hq=>occ' _ (b2 q' hq)⟩
   · have hk:k=hs.length:=by
      have:=(zd.mp ek).1
      rw [z9,zO] at this
      omega
     subst hk
     rw [A5 (yZ _),Nat.sub_self] at ek
     cases ek
     exact ⟨q,by rw [if_pos rfl],fun q' hq=>occ' _ (a4 q' (zG _) hq)⟩
theorem pF {M:Nat} (hM:M=7∨M=31):∀(rest hs:List Int) (ow:Array (Option Nat)) (f:Nat→Nat),Ow M hs ow f→hs.length+rest.length≤M+1→
 ∃ow' f',(rest.foldl (init:=some (ow,hs.length)) fun acc h=>do
  let (owner,k)←acc
  let j←SetTable.layClean.free M owner (SetTable.turns M) (SetTable.bits h%(M+1)) (SetTable.bits h)
  pure (owner.setIfInBounds j (some k),k+1))=some (ow',(hs++rest).length)∧Ow M (hs++rest) ow' f'
 | [],hs,ow,f,o,_=>⟨ow,f,by rw [A0];rfl,by rw [A0];exact o⟩
 |h::rest,hs,ow,f,o,hl=>by
  rw [zw] at hl
  obtain ⟨j,f',e,o'⟩:=tT hM o (by omega) h
  obtain ⟨ow',f2,e2,o2⟩:=pF hM rest (hs++ [h]) _ f' o' (by rw [z9,zO];omega)
  rw [List.append_assoc,List.singleton_append] at e2 o2
  refine ⟨ow',f2,?_,o2⟩
  rw [List.foldl_cons]
  rw [z9,zO] at e2
  have:(do
   let (owner,k)←some (ow,hs.length)
   let j←SetTable.layClean.free M owner (SetTable.turns M) (SetTable.bits h%(M+1)) (SetTable.bits h)
   pure (owner.setIfInBounds j (some k),k+1))=some (ow.setIfInBounds j (some hs.length),hs.length+1):=by
   show (SetTable.layClean.free M ow (SetTable.turns M) (SetTable.bits h%(M+1)) (SetTable.bits h)).bind _=_
   rw [e]
   rfl
  rw [this]
  exact e2
theorem xH {M:Nat} (hM:M=7∨M=31) (hs:Array Int) (hl:hs.size≤M+1):∃ow f,SetTable.layClean M hs=some ow∧Ow M hs.toList ow f:=by
 have o0:Ow M [] (Array.replicate (M+1) none) (fun _=>0):=⟨by simp,(fun k h=>absurd h (Nat.not_lt_zero _)),(fun j k e=>by
  rw [Array.getElem?_replicate] at e
  split at e<;>cases e),(fun k h e=>by simp at e)⟩
 obtain ⟨ow,f,e,o⟩:=pF hM hs.toList [] _ _ o0 (by simpa using hl)
 refine ⟨ow,f,?_,by rw [List.nil_append] at o;exact o⟩
 unfold SetTable.layClean
 rw [←Array.foldl_toList]
 have e':(List.foldl _ (some (Array.replicate (M+1) none,0)) hs.toList)=some (ow,([]++hs.toList).length):=e
 rw [e']
 rfl
open PySem PySem.Spec PyProof.Rows L2 Tk Sn
open St8 (ie hbv_at scs_at setE)
structure Sx (prog:Program) (w:World) (h:Heap) (M:Nat) (P:List Nat) (E:Nat→Int×Value) (kf:Nat→KT):Prop where
 at_:∀j∈P,KAt h (E j).2 (kf j)∧(kf j).depth≤8∧(∃b,(E j).2= .ref b)∧(E j).1=(kf j).hash prog w
 way:∀j∈P,∃k,sq M (E j).1 k=j∧∀q,q < k→sq M (E j).1 q∈P
 inj:∀i j,i∈P→j∈P→kf i=kf j→i=j
structure Si (b0:Bool) (h:Heap) (a:Addr) (M:Nat) (P:List Nat) (E:Nat→Int×Value) (o:Obj) (es:Array (Int×Value)) (ep:Nat) (t:SetTable):Prop where
 led:t.led=b0
 get:h.get? a=some o
 ex:o.ExactSet
 data:o.data= .set es ep t
 es:es.toList=P.map E
 tb:Tb t M P
 nm:P.length≤M
theorem Si.size {b0:Bool} {h:Heap} {a:Addr} {M:Nat} {P:List Nat} {E:Nat→Int×Value} {o:Obj} {es:Array (Int×Value)} {ep:Nat} {t:SetTable} (S:Si b0 h a M P E o es ep t):es.size=P.length:=by rw [←zk,S.es,yW]
theorem vT {t:SetTable} {M:Nat} {P:List Nat} (T:Tb t M P) (h:P.length≤M):t.fits P.length=true:=by
 unfold SetTable.fits SetTable.fill
 rw [T.dum,T.mask]
 have e:t.place.size=P.length:=by rw [←zk,T.place]
 rw [e]
 simp only [z5,beq_self_eq_true,Bool.true_and,decide_eq_true_eq]
 exact h
theorem Si.fits {b0:Bool} {h:Heap} {a:Addr} {M:Nat} {P:List Nat} {E:Nat→Int×Value} {o:Obj} {es:Array (Int×Value)} {ep:Nat} {t:SetTable} (S:Si b0 h a M P E o es ep t):t.fits es.size=true:=by
 rw [S.size]
 exact vT S.tb S.nm
theorem Si.get_at {b0:Bool} {h:Heap} {a:Addr} {M:Nat} {P:List Nat} {E:Nat→Int×Value} {o:Obj} {es:Array (Int×Value)} {ep:Nat} {t:SetTable} (S:Si b0 h a M P E o es ep t) {i j:Nat} (e:P[i]?=some j):es[i]?=some (E j):=by
 rw [←zP,S.es,zF,e]
 rfl
section
variable {prog:Program} {w:World} {A:Around} {X:Value→Shared→Prop} {s:Shared} {a:Addr} {M:Nat} {P:List Nat} {E:Nat→Int×Value} {kf:Nat→KT} {o:Obj} {es:Array (Int×Value)} {ep:Nat} {t:SetTable} {b0:Bool}
theorem Sx.keep {h h':Heap} (D:Sx prog w h M P E kf) (k:∀b o items n,h.get? b=some o→o.data= .seq items n→h'.get? b=some o):Sx prog w h' M P E kf:=
 ⟨fun j hj=>⟨(D.at_ j hj).1.keep k,(D.at_ j hj).2⟩,D.way,D.inj⟩
theorem qp (hM:M=7∨M=31) (S:Si b0 s.heap a M P E o es ep t) (D:Sx prog w s.heap M P E kf) {x:Value} {kt:KT} (hxr:∃c,x= .ref c) (hx:KAt s.heap x kt) (hd:kt.depth≤8) (hu:A.units+20 < cLine):∀(n k F:Nat) (stand:Option SetTable.Probe) {Q:SetFound→Shared→Prop},
 sq M (kt.hash prog w) (k+n)∉P→n < F→n < 10*(M+15)→stand.getD (t.probeStart (kt.hash prog w))=pr M (kt.hash prog w) k→
 (∀j∈P,kf j=kt→Q (.there none) s)→
 (∀k',k≤k'→sq M (kt.hash prog w) k'∉P→(∀q,k≤q→q < k'→sq M (kt.hash prog w) q∈P∧kf (sq M (kt.hash prog w) q)≠kt)→Q (.free (sq M (kt.hash prog w) k') false) s)→
 wpAny (model prog w) A (setSearchFrom a x (kt.hash prog w) true F stand) Q X s:=by
 intro n
 induction n using Nat.strongRecOn with
 |ind n ih=>
  intro k F stand Q hf hF hn hst there free
  obtain ⟨F,rfl⟩:∃f,F=f+1:=⟨F - 1,by omega⟩
  unfold setSearchFrom
  refine wpAny_bind (wpAny_setState_of S.get S.data S.fits ?_)
  dsimp only
  have gw:t.gaveWay=false:=by
   unfold SetTable.gaveWay
   rw [S.tb.mask]
   rcases hM with rfl|rfl<;>rfl
  rw [gw]
  simp only [zy,if_false]
  rw [hst]
  have h10:10*SetTable.turns t.mask=10*(M+15):=by rw [S.tb.mask];rfl
  have key:=sK S.tb (fun i=>(es[i]?.map (·.1)).getD 0) (kt.hash prog w) n k (10*SetTable.turns t.mask) hf (by omega)
  rcases key with ⟨k1,a1,a2,a3,a4,a5⟩|⟨k1,i,a1,a2,a3,a4,a5,a6,a7⟩
  · have hp:∀g:Nat→Int,g=(fun i=>(es[i]?.map (·.1)).getD 0)→t.probe g (kt.hash prog w) (pr M (kt.hash prog w) k)=some (.empty (sq M (kt.hash prog w) k1) none):=fun g e=>by
     subst e
     exact a3
    rw [hp]
    rotate_left
    · rfl
    refine wpAny_pure (free k1 a1 a4 fun q h1 h2=> ?_)
    obtain ⟨b1,b2⟩:=a5 q h1 h2
    refine ⟨b1,fun z=> ?_⟩
    obtain ⟨i,_,hi⟩:=iX S.tb b1
    have:=b2 i hi
    rw [S.get_at hi] at this
    exact this (by show (E _).1=_;rw [(D.at_ _ b1).2.2.2,z])
  · have hp:∀g:Nat→Int,g=(fun i=>(es[i]?.map (·.1)).getD 0)→t.probe g (kt.hash prog w) (pr M (kt.hash prog w) k)=some (.candidate (sq M (kt.hash prog w) k1) i (pr M (kt.hash prog w) (k1+1))):=fun g e=>by
     subst e
     exact a3
    rw [hp]
    rotate_left
    · rfl
    have on:=z7 a4
    obtain ⟨y1,y2,⟨b,y3⟩,y4⟩:=D.at_ _ on
    have gi:=S.get_at a4
    generalize hj:sq M (kt.hash prog w) k1=j at*
    generalize hE:E j=ej at*
    obtain ⟨hy,y⟩:=ej
    dsimp only at y1 y3 y4 ⊢
    split
    · refine wpAny_bind (scs_at hxr hx hd (fun y' my=> ?_) ?_)
      · obtain ⟨⟨h',y''⟩,m1,e1⟩:=zx.mp my
        have m2:=(Array.mem_filter.mp (Array.mem_toList_iff.mp m1)).1
        have m3:(h',y'')∈P.map E:=by rw [←S.es];exact Array.mem_toList_iff.mpr m2
        obtain ⟨j',mj',e'⟩:=zx.mp m3
        have oj:=mj'
        obtain ⟨u1,u2,u3,_⟩:=D.at_ j' oj
        rw [e'] at u1 u3
        rw [←e1]
        exact ⟨_,u1,u2,u3⟩
      simp only [zy,if_false]
      rw [gi]
      dsimp only
      refine wpAny_bind (wpAny_holding ((wI 8 y2 (by omega) y1 hx) prog w X _ ?_))
      refine wpAny_bind (wpAny_setState_of S.get S.data S.fits ?_)
      dsimp only
      by_cases z:kf j=kt
      · rw [decide_eq_true z]
        simp only [Bool.and_self,if_true]
        exact wpAny_pure (there j on z)
      · rw [decide_eq_false z]
        simp only [Bool.and_false,zy,if_false]
        have sm:t.sameMemory t.moves t.mask=some true:=by
         unfold SetTable.sameMemory
         rw [if_pos (by simp)]
        rw [sm]
        simp only [if_true]
        rw [a6]
        dsimp only
        rw [gi]
        dsimp only
        rw [y3]
        refine wpAny_bind (wpAny_isSame_ref_self (wpAny_bind (wpAny_pure ?_)))
        simp only [if_true]
        refine ih (k+n - (k1+1)) (by omega) (k1+1) F (some _) (by rw [show k1+1+(k+n - (k1+1))=k+n by omega];exact hf) (by omega) (by omega) rfl there fun k' h1 h2 h3=> ?_
        refine free k' (by omega) h2 fun q hq1 hq2=> ?_
        rcases Nat.lt_trichotomy q k1 with c|c|c
        · obtain ⟨b1,b2⟩:=a7 q hq1 c
          refine ⟨b1,fun zz=> ?_⟩
          obtain ⟨i2,_,hi2⟩:=iX S.tb b1
          have:=b2 i2 hi2
          rw [S.get_at hi2] at this
          exact this (by show (E _).1=_;rw [(D.at_ _ b1).2.2.2,zz])
        · subst c
          rw [hj]
          exact ⟨on,z⟩
        · exact h3 q (by omega) hq2
    · rw [gi]
      dsimp only
      refine wpAny_bind (wpAny_holding ((wI 8 y2 (by omega) y1 hx) prog w X _ ?_))
      refine wpAny_bind (wpAny_setState_of S.get S.data S.fits ?_)
      dsimp only
      by_cases z:kf j=kt
      · rw [decide_eq_true z]
        simp only [Bool.and_self,if_true]
        exact wpAny_pure (there j on z)
      · rw [decide_eq_false z]
        simp only [Bool.and_false,zy,if_false]
        have sm:t.sameMemory t.moves t.mask=some true:=by
         unfold SetTable.sameMemory
         rw [if_pos (by simp)]
        rw [sm]
        simp only [if_true]
        rw [a6]
        dsimp only
        rw [gi]
        dsimp only
        rw [y3]
        refine wpAny_bind (wpAny_isSame_ref_self (wpAny_bind (wpAny_pure ?_)))
        simp only [if_true]
        refine ih (k+n - (k1+1)) (by omega) (k1+1) F (some _) (by rw [show k1+1+(k+n - (k1+1))=k+n by omega];exact hf) (by omega) (by omega) rfl there fun k' h1 h2 h3=> ?_
        refine free k' (by omega) h2 fun q hq1 hq2=> ?_
        rcases Nat.lt_trichotomy q k1 with c|c|c
        · obtain ⟨b1,b2⟩:=a7 q hq1 c
          refine ⟨b1,fun zz=> ?_⟩
          obtain ⟨i2,_,hi2⟩:=iX S.tb b1
          have:=b2 i2 hi2
          rw [S.get_at hi2] at this
          exact this (by show (E _).1=_;rw [(D.at_ _ b1).2.2.2,zz])
        · subst c
          rw [hj]
          exact ⟨on,z⟩
        · exact h3 q (by omega) hq2
theorem vI (hM:M=7∨M=31) (fi mo:Nat) (led plain:Bool) (hs:Array Int) (hl:hs.size≤M):
 ∃(t':SetTable) (ord:Array Nat) (live:List (Nat×Nat)) (ow:Array (Option Nat)) (f:Nat→Nat),SetTable.laid M fi mo led plain hs=some (t',ord)∧Tb t' M (live.map (·.1))∧t'.led=led∧ord.toList=live.map (·.2)∧Ow M hs.toList ow f∧(∀p∈live,ow[p.1]?=some (some p.2))∧(∀j,occ ow j→j∈live.map (·.1))∧live.length=hs.size:=by
 obtain ⟨ow,f,e,o⟩:=xH hM hs (by omega)
 let g:Nat→Option (Nat×Nat):=fun j=>(ow.getD j none).map (j, ·)
 have gs:∀j p,g j=some p→p.1=j∧ow[j]?=some (some p.2):=fun j p h=>by
  have h':((ow[j]?).getD none).map (fun x=>(j,x))=some p:=by
   have h0:(ow.getD j none).map (j, ·)=some p:=h
   rw [zY] at h0
   exact h0
  cases q:ow[j]? with
  |none=>rw [q] at h';cases h'
  |some y=>
   rw [q] at h'
   cases y with
   |none=>cases h'
   |some k=>
    have:(j,k)=p:=zu h'
    rw [←this]
    exact ⟨rfl,rfl⟩
 have mem:∀p∈(List.range (M+1)).filterMap g,ow[p.1]?=some (some p.2):=fun p m=>by
  obtain ⟨j,_,h⟩:=Ah.mp m
  obtain ⟨h1,h2⟩:=gs j p h
  rw [h1]
  exact h2
 have cov:∀j,occ ow j→j∈((List.range (M+1)).filterMap g).map (·.1):=fun j ⟨k,h⟩=>by
  have jl:j < ow.size:=by
   rcases Nat.lt_or_ge j ow.size with c|c
   · exact c
   · rw [Array.getElem?_eq_none c] at h;cases h
  refine zx.mpr ⟨(j,k),Ah.mpr ⟨j,zN.mpr (by have:=o.size;omega),?_⟩,rfl⟩
  show (ow.getD j none).map (j, ·)=some (j,k)
  rw [zY,h]
  rfl
 have up:((List.range (M+1)).filterMap g).Pairwise (fun p q=>p.1 < q.1):=List.Pairwise.filterMap g (fun x y hxy p hp q hq=>by
  rw [(gs x p hp).1,(gs y q hq).1]
  exact hxy) List.pairwise_lt_range
 have upM:Up (((List.range (M+1)).filterMap g).map (·.1)):=List.pairwise_map.mpr up
 have nd2:((List.range hs.size).map f).Nodup:=by
  refine List.nodup_iff_pairwise_ne.mpr (List.pairwise_map.mpr (List.Pairwise.imp_of_mem (fun {x y} mx my hxy z=> ?_) List.pairwise_lt_range))
  have ox:=o.at_ x (by have:=zN.mp mx;simpa using this)
  have oy:=o.at_ y (by have:=zN.mp my;simpa using this)
  rw [z,oy] at ox
  cases ox
  exact Ae _ hxy
 have len:((List.range (M+1)).filterMap g).length=hs.size:=by
  have l1:(((List.range (M+1)).filterMap g).map (·.1)).length≤((List.range hs.size).map f).length:=iU (Up.nd upM) fun j m=>by
   obtain ⟨p,mp,rfl⟩:=zx.mp m
   have:=o.occ ⟨p.2,mem p mp⟩
   simpa using this
  have l2:((List.range hs.size).map f).length≤(((List.range (M+1)).filterMap g).map (·.1)).length:=iU nd2 fun j m=>by
   obtain ⟨k,mk,rfl⟩:=zx.mp m
   exact cov _ ⟨k,o.at_ k (by have:=zN.mp mk;simpa using this)⟩
  rw [yW,yW,List.length_range] at l1 l2
  omega
 refine ⟨{mask:=M,place:=(((List.range (M+1)).filterMap g).map (·.1)).toArray,dummies:= #[],finger:=fi,led:=led,moves:=mo,plain:=plain},(((List.range (M+1)).filterMap g).map (·.2)).toArray,(List.range (M+1)).filterMap g,ow,f,?_,⟨rfl,rfl,rfl,upM,fun j m=> ?_⟩,rfl,rfl,o,mem,cov,len⟩
 · unfold SetTable.laid
   rw [e]
   rfl
 · obtain ⟨p,mp,rfl⟩:=zx.mp m
   have h:=mem p mp
   have:p.1 < ow.size:=by
    rcases Nat.lt_or_ge p.1 ow.size with c|c
    · exact c
    · rw [Array.getElem?_eq_none c] at h;cases h
   have:=o.size
   omega
end
end Sg
namespace Sg
open PySem PySem.Spec PyProof.Rows L2 Tk Sn
open St8 (ie hbv_at scs_at setE)
section
variable {prog:Program} {w:World} {A:Around} {X:Value→Shared→Prop} {s:Shared} {a:Addr} {M:Nat} {P:List Nat} {E:Nat→Int×Value} {kf:Nat→KT} {o:Obj} {es:Array (Int×Value)} {ep:Nat} {t:SetTable} {b0:Bool}
theorem sk (S:Si b0 s.heap a 7 P E o es ep t) (D:Sx prog w s.heap 7 P E kf) {Q:Shared→Prop}
 (q:∀h' P' E' kf',Heap.SameBut a s.heap h'→(∃o es ep t,Si b0 h' a 31 P' E' o es ep t)→Sx prog w h' 31 P' E' kf'→P'.length=P.length→(∀i∈P,∃j∈P',E' j=E i∧kf' j=kf i)→(∀j∈P',∃i∈P,E' j=E i∧kf' j=kf i)→Q {s with heap:=h'}):
 wpAny (model prog w) A (setRelay a 20) (fun _ s'=>Q s') X s:=by
 have p7:=S.nm
 have esz:=S.size
 obtain ⟨t',ord,live,ow,f,e,T,el,eo,O,mem,cov,ll⟩:=vI (M:=31) (.inr rfl) t.finger (t.movedTo 31) t.led t.plain (es.map (·.1)) (by rw [Array.size_map];omega)
 rw [Array.size_map] at ll
 have er:t.relaid (es.map (·.1)) 20=some (t',ord):=e
 unfold setRelay
 refine wpAny_bind (wpAny_setState_of S.get S.data S.fits ?_)
 dsimp only
 rw [if_neg (by decide +kernel)]
 rw [er]
 have kl:∀p∈live,p.2 < P.length:=fun p m=>by
  have:=(O.only _ _ (mem p m)).1
  rw [zk,Array.size_map] at this
  omega
 have hes:(ord.filterMap (es[·]?)).toList=(live.map (·.1)).map (fun j=>E (P.getD (((ow[j]?).getD none).getD 0) 0)):=by
  rw [Array.toList_filterMap,eo,List.map_map]
  have:∀l:List (Nat×Nat),(∀p∈l,ow[p.1]?=some (some p.2)∧p.2 < P.length)→(l.map (·.2)).filterMap (es[·]?)=l.map ((fun j=>E (P.getD (((ow[j]?).getD none).getD 0) 0)) ∘ (·.1)):=by
   intro l
   induction l with
   |nil=>intro _;rfl
   |cons p l ih=>
    intro h
    obtain ⟨h1,h2⟩:=h p yY
    have g:es[p.2]?=some (E (P.getD p.2 0)):=S.get_at (by rw [zK,yX h2];rfl)
    rw [zo,List.filterMap_cons,g,zo,ih fun x m=>h x (z6 _ m)]
    show _::_=(E (P.getD (((ow[p.1]?).getD none).getD 0) 0))::_
    rw [h1]
    rfl
  exact this live fun p m=>⟨mem p m,kl p m⟩
 have hsz:(ord.filterMap (es[·]?)).size=es.size:=by rw [←zk,hes,yW,yW,ll]
 refine wpAny_bind ?_
 show wpAny (model prog w) A (do
  if ((ord.filterMap (es[·]?)).size !=es.size)=true then (unsupported "internal:set-table-lost-an-element":Sem Unit)
  pure (ord.filterMap (es[·]?),t')) _ X s
 rw [if_neg (by rw [hsz];simp)]
 refine wpAny_bind (wpAny_pure (wpAny_pure ?_))
 dsimp only
 have inn:∀j∈live.map (·.1),∃k i,ow[j]?=some (some k)∧P[k]?=some i∧P.getD (((ow[j]?).getD none).getD 0) 0=i∧f k=j:=fun j m=>by
  obtain ⟨p,mp,rfl⟩:=zx.mp m
  have h1:=mem p mp
  have h2:=kl p mp
  refine ⟨p.2,P[p.2],h1,yX h2,?_,(O.only _ _ h1).2⟩
  rw [h1]
  show P.getD p.2 0=_
  rw [zK,yX h2]
  rfl
 have plen:(live.map (·.1)).length=P.length:=by rw [yW,ll,esz]
 have hsl:(ord.filterMap (es[·]?)).size≤sizeLine:=by
  rw [hsz,esz,sizeLine_eq]
  omega
 refine wpAny_storeSet_of S.get S.data ?_ hsl
 have hg:(s.heap.update a (Obj.putSet (ord.filterMap (es[·]?)) t')).get? a=some {o with data:= .set (ord.filterMap (es[·]?)) (ep+1) t'}:=by
  have:=Heap.get?_update_self (Obj.putSet (ord.filterMap (es[·]?)) t') S.get (by rw [putSet_of _ _ S.data];rfl)
  rw [putSet_of _ _ S.data] at this
  exact this
 have kp:∀b ob items n,s.heap.get? b=some ob→ob.data= .seq items n→(s.heap.update a (Obj.putSet (ord.filterMap (es[·]?)) t')).get? b=some ob:=fun b ob items n e dd=>by
  have ne:b≠a:=fun z=>by
   rw [z,S.get] at e
   cases e
   rw [S.data] at dd
   cases dd
  exact (Heap.get?_update_other _ _ (Ne.symm ne)).trans e
 refine q _ (live.map (·.1)) (fun j=>E (P.getD (((ow[j]?).getD none).getD 0) 0)) (fun j=>kf (P.getD (((ow[j]?).getD none).getD 0) 0)) (Heap.SameBut.update ..) ⟨_,_,_,_,⟨el.trans S.led,hg,S.ex,rfl,hes,T,by rw [plen];omega⟩⟩ ⟨fun j m=> ?_,fun j m=> ?_,fun i j mi mj he=> ?_⟩ plen (fun i m=> ?_) (fun j m=> ?_)
 · obtain ⟨k,i,_,h2,h3,_⟩:=inn j m
   rw [h3]
   exact (D.keep kp).at_ i (z7 h2)
 · obtain ⟨k,i,h1,h2,h3,h4⟩:=inn j m
   rw [h3]
   obtain ⟨q0,b1,b2⟩:=O.way k (E i).1 (by rw [zP,Array.getElem?_map,S.get_at h2];rfl)
   exact ⟨q0,b1.trans h4,fun q' hq=>cov _ (b2 q' hq)⟩
 · obtain ⟨k,i',_,h2,h3,h4⟩:=inn i mi
   obtain ⟨k2,i2,_,g2,g3,g4⟩:=inn j mj
   rw [h3,g3] at he
   have:=D.inj _ _ (z7 h2) (z7 g2) he
   subst this
   have:=St8.nd_ix (Up.nd S.tb.up) h2 g2
   subst this
   exact h4.symm.trans g4
 · obtain ⟨k,hk,e⟩:=zX m
   have oa:=O.at_ k (by rw [zk,Array.size_map];omega)
   refine ⟨f k,cov _ ⟨k,oa⟩,?_⟩
   have:P.getD (((ow[f k]?).getD none).getD 0) 0=i:=by
    rw [oa]
    show P.getD k 0=i
    rw [zK,yX hk,←e]
    rfl
   rw [this]
   exact ⟨rfl,rfl⟩
 · obtain ⟨k,i,_,h2,h3,_⟩:=inn j m
   refine ⟨i,z7 h2,?_⟩
   rw [h3]
   exact ⟨rfl,rfl⟩
theorem ya (hM:M=7∨M=31) (S:Si b0 s.heap a M P E o es ep t) (D:Sx prog w s.heap M P E kf) (n3:(P.length+1)*5 < M*3∨M=7∧P.length=4) {x:Value} {kt:KT} (hxr:∃c,x= .ref c) (hx:KAt s.heap x kt) (hd:kt.depth≤8) (hu:A.units+20 < cLine) {Q:Shared→Prop}
 (same:∀j∈P,kf j=kt→Q s)
 (new:∀h' M' P' E' kf',(∀i∈P,kf i≠kt)→Heap.SameBut a s.heap h'→((M'=M∧(P.length+1)*5 < M*3)∨M'=31)→(∃o es ep t,Si b0 h' a M' P' E' o es ep t)→Sx prog w h' M' P' E' kf'→P'.length=P.length+1→(∀i∈P,∃j∈P',E' j=E i∧kf' j=kf i)→(∃j∈P',E' j=(kt.hash prog w,x)∧kf' j=kt)→(∀j∈P',(∃i∈P,E' j=E i∧kf' j=kf i)∨(E' j=(kt.hash prog w,x)∧kf' j=kt))→Q {s with heap:=h'}):
 wpAny (model prog w) A (setAddHashed a x (kt.hash prog w)) (fun _ s'=>Q s') X s:=by
 obtain ⟨k0,k21,kf0⟩:=vP hM S.nm (kt.hash prog w)
 unfold setAddHashed setAddHashedIn
 refine wpAny_holding (wpAny_bind (wpAny_setState_of S.get S.data S.fits ?_))
 dsimp only
 have nsc:byScan x es=false:=by
  obtain ⟨c,rfl⟩:=hxr
  rfl
 rw [nsc]
 simp only [zy,if_false]
 unfold setSearch
 refine wpAny_bind (qp hM S D hxr hx hd hu k0 0 100000 none (by rw [Nat.zero_add];exact kf0) (by omega) (by omega) (rK S.tb _) (fun j h1 h2=> ?_) fun k' _ h2 h3=> ?_)
 · exact wpAny_pure (same j h1 h2)
 · dsimp only
   refine wpAny_bind (wpAny_setState_of S.get S.data S.fits ?_)
   dsimp only
   generalize hj:sq M (kt.hash prog w) k'=j at*
   have j8:j≤M:=by rw [←hj];exact wm _ _ _
   have nokey:∀i∈P,kf i≠kt:=fun i hi z=>by
    obtain ⟨kk,e1,e2⟩:=D.way i hi
    have eh:(E i).1=kt.hash prog w:=by rw [(D.at_ i hi).2.2.2,z]
    rw [eh] at e1 e2
    rcases Nat.lt_or_ge kk k' with c|c
    · have:=(h3 kk (zG _) c).2
      rw [e1] at this
      exact this z
    · rcases Nat.lt_or_ge k' kk with c2|c2
      · have:=e2 k' c2
        rw [hj] at this
        exact h2 this
      · have:kk=k':=by omega
        rw [this,hj] at e1
        rw [e1] at h2
        exact h2 hi
   have upP:Up t.place.toList:=by rw [S.tb.place];exact S.tb.up
   obtain ⟨bl,_,_⟩:=jA upP j
   have npl:t.place.size=P.length:=by rw [←zk,S.tb.place]
   have hput:(SetTable.insertAt t.place (SetTable.below t.place j) j).toList=P.take (SetTable.below t.place j)++j::P.drop (SetTable.below t.place j):=by rw [SetTable.toList_insertAt,S.tb.place]
   have upN:Up (P.take (SetTable.below t.place j)++j::P.drop (SetTable.below t.place j)):=by
    have:=xh upP (j:=j) (by rw [S.tb.place];exact h2)
    have e:(t.put j).1.place.toList=P.take (SetTable.below t.place j)++j::P.drop (SetTable.below t.place j):=hput
    rw [e] at this
    exact this
   have memN:∀i,i∈P.take (SetTable.below t.place j)++j::P.drop (SetTable.below t.place j)↔i∈P∨i=j:=fun i=>by
    have:i∈P↔i∈P.take (SetTable.below t.place j)++P.drop (SetTable.below t.place j):=by rw [A1]
    rw [this]
    simp only [zf,zc]
    constructor
    · rintro (a|a|a)
      · exact .inl (.inl a)
      · exact .inr a
      · exact .inl (.inr a)
    · rintro ((a|a)|a)
      · exact .inl a
      · exact .inr (.inr a)
      · exact .inr (.inl a)
   have nlen:(P.take (SetTable.below t.place j)++j::P.drop (SetTable.below t.place j)).length=P.length+1:=by
    rw [z9,zw,zm,zI]
    omega
   have hpe:t.put j=({t with place:=SetTable.insertAt t.place (SetTable.below t.place j) j},SetTable.below t.place j):=by
    unfold SetTable.put
    rw [S.tb.dum,tJ]
    rfl
   rw [hpe]
   dsimp only
   have notin:∀i∈P,i≠j:=fun i mi z=>h2 (z▸mi)
   have hes:(SetTable.insertAt es (SetTable.below t.place j) (kt.hash prog w,x)).toList=(P.take (SetTable.below t.place j)++j::P.drop (SetTable.below t.place j)).map (setE E j (kt.hash prog w,x)):=by
    rw [SetTable.toList_insertAt,S.es,zh,zo]
    have e1:∀l:List Nat,(∀i∈l,i≠j)→l.map (setE E j (kt.hash prog w,x))=l.map E:=fun l hl=>List.map_congr_left fun i mi=>if_neg (hl i mi)
    rw [e1 _ fun i mi=>notin i (List.mem_of_mem_take mi),e1 _ fun i mi=>notin i (List.mem_of_mem_drop mi),List.map_take,List.map_drop]
    simp [setE]
   generalize hN:P.take (SetTable.below t.place j)++j::P.drop (SetTable.below t.place j)=N at hput upN memN nlen hes
   have esz:=S.size
   have pm:=S.nm
   have fin:∀pl:Bool,wpAny (model prog w) A (do
    storeSet a (SetTable.insertAt es (SetTable.below t.place j) (kt.hash prog w,x)) {t with place:=SetTable.insertAt t.place (SetTable.below t.place j) j,plain:=pl}
    if (!false&& ({t with place:=SetTable.insertAt t.place (SetTable.below t.place j) j,plain:=pl}:SetTable).tooFull)=true then do
     setRelay a (SetTable.grown (es.size+1))
     pure true
    else pure true) (fun _ s'=>Q s') X s:=by
    intro pl
    have hsz:(SetTable.insertAt es (SetTable.below t.place j) (kt.hash prog w,x)).size≤sizeLine:=by
     rw [←zk,hes,yW,nlen,sizeLine_eq]
     rcases hM with rfl|rfl<;>omega
    refine wpAny_bind (wpAny_storeSet_of S.get S.data ?_ hsz)
    have hg:(s.heap.update a (Obj.putSet (SetTable.insertAt es (SetTable.below t.place j) (kt.hash prog w,x)) {t with place:=SetTable.insertAt t.place (SetTable.below t.place j) j,plain:=pl})).get? a=some {o with data:= .set (SetTable.insertAt es (SetTable.below t.place j) (kt.hash prog w,x)) (ep+1) {t with place:=SetTable.insertAt t.place (SetTable.below t.place j) j,plain:=pl}}:=by
     have:=Heap.get?_update_self (Obj.putSet (SetTable.insertAt es (SetTable.below t.place j) (kt.hash prog w,x)) {t with place:=SetTable.insertAt t.place (SetTable.below t.place j) j,plain:=pl}) S.get (by rw [putSet_of _ _ S.data];rfl)
     rw [putSet_of _ _ S.data] at this
     exact this
    have tbN:Tb ({t with place:=SetTable.insertAt t.place (SetTable.below t.place j) j,plain:=pl}:SetTable) M N:=⟨S.tb.mask,hput,S.tb.dum,upN,fun i mi=>by
     rcases (memN i).mp mi with m|m
     · exact S.tb.lt i m
     · rw [m];exact j8⟩
    have kp:∀b ob items n,s.heap.get? b=some ob→ob.data= .seq items n→(s.heap.update a (Obj.putSet (SetTable.insertAt es (SetTable.below t.place j) (kt.hash prog w,x)) {t with place:=SetTable.insertAt t.place (SetTable.below t.place j) j,plain:=pl})).get? b=some ob:=fun b ob items n e dd=>by
     have ne:b≠a:=fun z=>by
      rw [z,S.get] at e
      cases e
      rw [S.data] at dd
      cases dd
     exact (Heap.get?_update_other _ _ (Ne.symm ne)).trans e
    have nM:N.length≤M:=by
     rw [nlen]
     rcases n3 with n3|⟨rfl,n3⟩
     · rcases hM with rfl|rfl<;>omega
     · omega
    have SN:Si b0 (s.heap.update a (Obj.putSet (SetTable.insertAt es (SetTable.below t.place j) (kt.hash prog w,x)) {t with place:=SetTable.insertAt t.place (SetTable.below t.place j) j,plain:=pl})) a M N (setE E j (kt.hash prog w,x)) {o with data:= .set (SetTable.insertAt es (SetTable.below t.place j) (kt.hash prog w,x)) (ep+1) {t with place:=SetTable.insertAt t.place (SetTable.below t.place j) j,plain:=pl}} (SetTable.insertAt es (SetTable.below t.place j) (kt.hash prog w,x)) (ep+1) {t with place:=SetTable.insertAt t.place (SetTable.below t.place j) j,plain:=pl}:=⟨S.led,hg,S.ex,rfl,hes,tbN,nM⟩
    have D':=D.keep kp
    have DN:Sx prog w (s.heap.update a (Obj.putSet (SetTable.insertAt es (SetTable.below t.place j) (kt.hash prog w,x)) {t with place:=SetTable.insertAt t.place (SetTable.below t.place j) j,plain:=pl})) M N (setE E j (kt.hash prog w,x)) (setE kf j kt):=by
     refine ⟨fun i hi=> ?_,fun i hi=> ?_,fun i i' hi hi' he=> ?_⟩
     · by_cases z:i=j
       · subst z
         simp only [setE,if_true]
         exact ⟨hx.keep kp,hd,hxr,trivial⟩
       · simp only [setE,if_neg z]
         exact D'.at_ i (((memN i).mp hi).resolve_right z)
     · by_cases z:i=j
       · subst z
         simp only [setE,if_true]
         exact ⟨k',hj,fun q hq=>(memN _).mpr (.inl (h3 q (zG _) hq).1)⟩
       · simp only [setE,if_neg z]
         obtain ⟨kk,e1,e2⟩:=D.way i (((memN i).mp hi).resolve_right z)
         exact ⟨kk,e1,fun q hq=>(memN _).mpr (.inl (e2 q hq))⟩
     · by_cases z:i=j
       · by_cases z':i'=j
         · rw [z,z']
         · rw [z] at he
           simp only [setE,if_true,if_neg z'] at he
           exact absurd he.symm (nokey i' (((memN i').mp hi').resolve_right z'))
       · by_cases z':i'=j
         · rw [z'] at he
           simp only [setE,if_true,if_neg z] at he
           exact absurd he (nokey i (((memN i).mp hi).resolve_right z))
         · simp only [setE,if_neg z,if_neg z'] at he
           exact D.inj i i' (((memN i).mp hi).resolve_right z) (((memN i').mp hi').resolve_right z') he
    have oldE:∀i∈P,setE E j (kt.hash prog w,x) i=E i∧setE kf j kt i=kf i:=fun i mi=>⟨if_neg (notin i mi),if_neg (notin i mi)⟩
    have newE:setE E j (kt.hash prog w,x) j=(kt.hash prog w,x)∧setE kf j kt j=kt:=⟨if_pos rfl,if_pos rfl⟩
    have sb:=Heap.SameBut.update s.heap a (Obj.putSet (SetTable.insertAt es (SetTable.below t.place j) (kt.hash prog w,x)) {t with place:=SetTable.insertAt t.place (SetTable.below t.place j) j,plain:=pl})
    have tf:({t with place:=SetTable.insertAt t.place (SetTable.below t.place j) j,plain:=pl}:SetTable).tooFull=decide ((P.length+1)*5≥M*3):=by
     unfold SetTable.tooFull SetTable.fill
     have e:(SetTable.insertAt t.place (SetTable.below t.place j) j).size=P.length+1:=by rw [←zk,hput,nlen]
     rw [S.tb.mask,S.tb.dum]
     simp only [e]
     rfl
    rw [tf]
    rcases n3 with n3|⟨rfl,n4⟩
    · rw [decide_eq_false (by omega)]
      simp only [Bool.not_false,Bool.and_false,zy,if_false]
      refine wpAny_pure (new _ M N _ _ nokey sb (.inl ⟨rfl,n3⟩) ⟨_,_,_,_,SN⟩ DN nlen (fun i mi=>⟨i,(memN i).mpr (.inl mi),oldE i mi⟩) ⟨j,(memN j).mpr (.inr rfl),newE⟩ fun i mi=> ?_)
      rcases (memN i).mp mi with m|m
      · exact .inl ⟨i,m,oldE i m⟩
      · rw [m];exact .inr newE
    · rw [decide_eq_true (by omega)]
      simp only [Bool.not_false,Bool.and_true,if_true]
      have g20:SetTable.grown (es.size+1)=20:=by rw [esz,n4];rfl
      rw [g20]
      refine wpAny_bind (sk (s:= {s with heap:=_}) SN DN fun h' P' E' kf' sb' hSi hSx hl tr1 tr2=>wpAny_pure ?_)
      refine new h' 31 P' E' kf' nokey ⟨?_,?_⟩ (.inr rfl) hSi hSx (hl.trans nlen) (fun i mi=> ?_) ?_ fun i mi=> ?_
      · exact sb'.1.trans sb.1
      · exact fun b nb=>(sb'.2 b nb).trans (sb.2 b nb)
      · obtain ⟨j',m',e1,e2⟩:=tr1 i ((memN i).mpr (.inl mi))
        exact ⟨j',m',e1.trans (oldE i mi).1,e2.trans (oldE i mi).2⟩
      · obtain ⟨j',m',e1,e2⟩:=tr1 j ((memN j).mpr (.inr rfl))
        exact ⟨j',m',e1.trans newE.1,e2.trans newE.2⟩
      · obtain ⟨i',m',e1,e2⟩:=tr2 i mi
        rcases (memN i').mp m' with m|m
        · exact .inl ⟨i',m,e1.trans (oldE i' m).1,e2.trans (oldE i' m).2⟩
        · rw [m] at e1 e2
          exact .inr ⟨e1.trans newE.1,e2.trans newE.2⟩
   split
   · refine wpAny_bind (hbv_at 8 hx fun bb=> ?_)
     cases bb with
     |true=>exact fin t.plain
     |false=>exact fin false
   · refine wpAny_bind (wpAny_pure ?_)
     exact fin t.plain
end
end Sg
namespace Sn
open PySem PySem.Spec PyProof.Rows
section
variable {prog:Program} {w:World} {A:Around} {X:Value→Shared→Prop} {s:Shared} {a:Addr} {b:Bool} {S:List Int}
end
open PySem PySem.Spec PyProof.Rows
structure RS (h:Heap) (a:Addr) (es:Array (Int×Value)) (ep:Nat) (t:SetTable):Prop where
 ex:∃o,h.get? a=some o∧o.ExactSet∧o.data= .set es ep t
 fits:t.fits es.size=true
theorem RS.kp {h h':Heap} {a:Addr} {es:Array (Int×Value)} {ep:Nat} {t:SetTable} (x:RS h a es ep t) (e:∀o,h.get? a=some o→h'.get? a=some o):RS h' a es ep t:=by
 obtain ⟨⟨o,h1,h2⟩,f⟩:=x
 exact ⟨⟨o,e o h1,h2⟩,f⟩
section
variable {prog:Program} {w:World} {A:Around} {E:Value→Shared→Prop} {s:Shared} {a I:Addr} {es:Array (Int×Value)} {ep:Nat} {t:SetTable}
theorem RS.ty (x:RS s.heap a es ep t):s.TypeIs (.ref a) "set":=by
 obtain ⟨⟨o,h1,h2,_⟩,_⟩:=x
 exact ⟨o,h1,h2.1⟩
end
open PySem PySem.Spec PyProof.Rows
section
variable {prog:Program} {w:World} {A:Around} {E:Value→Shared→Prop} {s:Shared} {a I:Addr} {es:Array (Int×Value)} {ep:Nat} {t:SetTable}
end
open PySem PySem.Spec PyProof.Rows
section
variable {prog:Program} {w:World} {A:Around} {E:Value→Shared→Prop} {s:Shared} {a I:Addr} {es:Array (Int×Value)} {ep:Nat} {t:SetTable}
end
open PySem PySem.Spec PyProof.Rows Srt
section
variable {prog:Program} {w:World} {A:Around} {E:Value→Shared→Prop} {s:Shared} {a I:Addr} {b:Bool} {S:List Int}
end
section
variable {prog:Program} {w:World} {A:Around} {R:Result→Shared→Prop} {I:Addr} {fp wr:List Addr} {G:Array GenState→Array GenState→Prop} {n:Nat} {P:Nat→Value→Prop} {St:Nat→Shared→Prop} {b:Bool}
end
end Sn
namespace Sn
open PySem PySem.Spec PyProof.Rows
section
variable {prog:Program} {w:World} {A:Around} {E:Value→Shared→Prop} {s:Shared}
noncomputable def freshO (b:Bool):Obj:= {cls:= .type "set",dict:=none,data:= .set #[] 0 (.fresh 0 0 b)}
theorem new_n (a:Value) {Q₁:Value→Shared→Prop} (h:Q₁ (.ref s.heap.objs.size) {s with heap:=s.heap.push (freshO (!(w.params.followText "set-order")))}):
 codeAny (model prog w) A (.call (.builtin "set.__new__") ⟨[.type "set",a],[]⟩) (wants Q₁ E) s:=by
 refine codeAny_of_tree ?_
 show wpAny _ A.in1 (do checkBuiltinCall "set.__new__" ⟨[.type "set",a],[]⟩;again (.builtin "set.__new__" ⟨[.type "set",a],[]⟩)) _ _ s
 refine wpAny_bind (wpAny_of_eq (F.newCall_set_1 a) (wpAny_pure ⟨plainId_quiet F.plain_set_new _,codeAny_builtin F.entry_set_new ?_⟩))
 rw [Around.under_plainId F.plain_set_new _]
 unfold Builtin.«set.__new__» Builtin.Frozenset.newClass
 have hsub:=sub_set_self
 obtain ⟨hp,g,d,tk,os⟩:=s
 dsimp only
 wp_walk
 refine wpAny_askSetting (wpAny_pure ?_)
 dsimp only
 simp only [newObj]
 refine wpAny_bind (wpAny_alloc (wpAny_pure ?_))
 exact wpAny_pure h
end
end Sn
namespace St8
open PySem PySem.Spec PyProof.Rows Tk
section
variable {prog:Program} {w:World} {A:Around} {X:Value→Shared→Prop} {s:Shared} {a:Addr} {b:Bool} {us:List Value} {ks:List KT}
end
section
variable {prog:Program} {w:World} {A:Around} {R:Result→Shared→Prop} {I:Addr} {fp wr:List Addr} {G:Array GenState→Array GenState→Prop} {n:Nat} {P:Nat→Value→Prop} {St:Nat→Shared→Prop} {b:Bool} {vs:List Value} {ks:List KT}
end
open PySem PySem.Spec PyProof.Rows Tk
section
variable {prog:Program} {w:World} {A:Around} {E:Value→Shared→Prop} {s:Shared}
end
end St8
namespace L2
open PySem PySem.Spec PyProof.Rows
section
variable {X:Cx}
end
end L2
namespace Tre
open PySem PySem.Spec PyProof.Rows L2
section
variable {X:Cx}
end
open PySem PySem.Spec PyProof.Rows L2
section
variable {X:Cx}
end
open PySem PySem.Spec PyProof.Rows L2
open PySem PySem.Spec PySem.W PyProof.Rows L2 Srt
section
variable {X:Cx}
end
end Tre
namespace L2
open PySem PySem.Spec PyProof.Rows Sn
section
variable {X:Cx} {pins:List (Addr×Obj)} {σ:St} {H:Hp} {s:Shared}
end
end L2
namespace Dj
open PySem PySem.Spec PyProof.Rows L2 Tre Wd Su
section
variable {X:Cx} {pos:Pos} {o i:Expr} {td ty:TE} {P:Program} {w:World} {K:PySem.W.Frag}
end
mutual
noncomputable def ktT:Tr→Tk.KT
 | .int i=> .lf (.inl i)
 | .str x=> .lf (.inr x)
 | .tup ts=> .tp (ktTs ts)
 |_=> .tp []
noncomputable def ktTs:List Tr→List Tk.KT
 | []=> []
 |t::ts=>ktT t::ktTs ts
end
mutual
def Kp:Tr→Prop
 | .int _=>True
 | .str _=>True
 | .tup ts=>Kps ts
 |_=>False
def Kps:List Tr→Prop
 | []=>True
 |t::ts=>Kp t∧Kps ts
end
theorem lw {ts:List Tr} (h:∀t∈ts,Kp t):Kps ts:=by
 induction ts with
 |nil=>trivial
 |cons t ts ih=>exact ⟨h t yY,ih fun u m=>h u (z6 _ m)⟩
theorem yb {t:Tr} (h:Ty .tm t):Kp t:=by
 generalize e:So.tm=k at h
 induction h with
 |nm x=>simp only [Kp,Kps,and_self]
 |ap x ts _ _ ih=>simp only [Kp,Kps,and_true,true_and];exact lw fun t m=>ih t m e
 |fr=>cases e
 |pr=>cases e
 |fl=>cases e
 |mo=>cases e
 |li=>cases e
 |no=>cases e
 |bo=>cases e
 |ei=>cases e
 |lt=>cases e
mutual
theorem tZ:∀ {t u:Tr},Kp t→Kp u→ktT t=ktT u→t=u
 | .int i, .int j,_,_,e=>by simp only [ktT,Tk.KT.lf.injEq,Sum.inl.injEq] at e;rw [e]
 | .int i, .str y,_,_,e=>by simp [ktT] at e
 | .int i, .tup us,_,_,e=>by simp [ktT] at e
 | .str x, .int j,_,_,e=>by simp [ktT] at e
 | .str x, .str y,_,_,e=>by simp only [ktT,Tk.KT.lf.injEq,Sum.inr.injEq] at e;rw [e]
 | .str x, .tup us,_,_,e=>by simp [ktT] at e
 | .tup ts, .int j,_,_,e=>by simp [ktT] at e
 | .tup ts, .str y,_,_,e=>by simp [ktT] at e
 | .tup ts, .tup us,h1,h2,e=>by
  simp only [ktT,Tk.KT.tp.injEq] at e
  rw [kts_inj h1 h2 e]
theorem kts_inj:∀ {ts us:List Tr},Kps ts→Kps us→ktTs ts=ktTs us→ts=us
 | [],[],_,_,_=>rfl
 | [],_::_,_,_,e=>by simp [ktTs] at e
 |_::_,[],_,_,e=>by simp [ktTs] at e
 |t::ts,u::us,h1,h2,e=>by
  simp only [ktTs,Ad] at e
  rw [tZ h1.1 h2.1 e.1,kts_inj h1.2 h2.2 e.2]
end
mutual
theorem u5:∀ {t:Tr},Kp t→(ktT t).depth=t.depth
 | .int i,_=>by simp [ktT,Tk.KT.depth,Tr.depth]
 | .str x,_=>by simp [ktT,Tk.KT.depth,Tr.depth]
 | .tup ts,k=>by
  simp only [ktT,Tk.KT.depth,Tr.depth]
  rw [kts_dep k]
theorem kts_dep:∀ {ts:List Tr},Kps ts→Tk.KTs.depth (ktTs ts)=Trs.depth ts
 | [],_=>by simp [ktTs,Tk.KTs.depth,Trs.depth]
 |t::ts,k=>by
  simp only [ktTs,Tk.KTs.depth,Trs.depth]
  rw [u5 k.1,kts_dep k.2]
end
section
variable {K:PySem.W.Frag} {H:Hp}
mutual
theorem xI:∀ {v:V} {t:Tr},Kp t→TrAt H v t→KVt K H v (ktT t)
 |v, .int i,_,h=>by unfold TrAt at h;simp only [ktT,KVt];exact h
 |v, .str x,_,h=>by unfold TrAt at h;simp only [ktT,KVt];exact h
 |v, .tup ts,k,h=>by
  unfold TrAt at h
  obtain ⟨r,vs,e,h1,h2⟩:=h
  simp only [ktT,KVt]
  exact ⟨r,vs,e, .inl h1,kvts_of k h2⟩
theorem kvts_of:∀ {vs:List V} {ts:List Tr},Kps ts→TrsAt H vs ts→KVts K H vs (ktTs ts)
 |vs,[],_,h=>by unfold TrsAt at h;simp only [ktTs,KVts];exact h
 |vs,t::ts,k,h=>by
  obtain ⟨v,r,e,h1,h2⟩:=h.inv
  simp only [ktTs,KVts]
  exact ⟨v,r,e,xI k.1 h1,kvts_of k.2 h2⟩
end
end
section
variable {P:Program} {w:World} {K:PySem.W.Frag} {H H':Hp} {a:Addr} {ks:List Tr} {g:Tr→Fr}
end
end Dj
namespace L2
open PySem PySem.Spec PyProof.Rows Tre Dj
noncomputable def sT (w:World) (a:Addr) (cs:List Addr):HO:= .ext fun h=>∃es ep t,Sn.RS h a es ep t∧Sn.Tk (!(w.params.followText "set-order")) t∧es.toList.map (·.2)=cs.map Value.ref
theorem vC {ts:List Tr} {t:Tr} (m:t∈ts):ktT t∈ktTs ts:=by
 induction ts with
 |nil=>cases m
 |cons u ts ih=>
  rw [ktTs]
  rcases zc.mp m with rfl|m
  · exact yY
  · exact z6 _ (ih m)
theorem lr:∀ {ts:List Tr} {i:Nat} {k:Tk.KT},(ktTs ts)[i]?=some k→∃t,ts[i]?=some t∧k=ktT t
 | [],i,k,h=>by rw [ktTs] at h;cases h
 |t::ts,0,k,h=>by rw [ktTs] at h;cases h;exact ⟨t,rfl,rfl⟩
 |t::ts,i+1,k,h=>by rw [ktTs] at h;exact lr (ts:=ts) (i:=i) h
section
variable {X:Cx}
end
end L2
namespace Sg
open PySem PySem.Spec PyProof.Rows L2 Tk
def Nt (prog:Program) (w:World) (h:Heap) (a:Addr) (b:Bool) (us:List Value) (ks:List KT):Prop:=
 ∃M P E kf o es ep t,(M=7∨M=31)∧Si b h a M P E o es ep t∧Sx prog w h M P E kf∧(∀k∈ks,∃j∈P,kf j=k)∧(∀j∈P,∃i:Nat,us[i]?=some (E j).2∧ks[i]?=some (kf j))∧us.length=ks.length∧P.length≤ks.length∧(M=7→P.length≤4)
section
variable {prog:Program} {w:World} {A:Around} {X:Value→Shared→Prop} {s:Shared} {a:Addr} {b:Bool} {us:List Value} {ks:List KT}
theorem Nt.kp {h h':Heap} (N:Nt prog w h a b us ks) (e:∀o,h.get? a=some o→h'.get? a=some o) (k:∀c o items n,h.get? c=some o→o.data= .seq items n→h'.get? c=some o):Nt prog w h' a b us ks:=by
 obtain ⟨M,P,E,kf,o,es,ep,t,hM,S,D,r⟩:=N
 exact ⟨M,P,E,kf,o,es,ep,t,hM,⟨S.led,e _ S.get,S.ex,S.data,S.es,S.tb,S.nm⟩,D.keep k,r⟩
theorem tH {h:Heap} (hg:h.get? a=some (Sn.freshO b)):Nt prog w h a b [] []:=by
 have no:∀(j:Nat),j∈([]:List Nat)→False:=fun j m=>by cases m
 refine ⟨7,[],fun _=>(0, .none),fun _=> .tp [],Sn.freshO b, #[],0, .fresh 0 0 b, .inl rfl,⟨rfl,hg,⟨rfl,rfl,rfl⟩,rfl,rfl,⟨rfl,rfl,rfl,List.Pairwise.nil,fun j m=>(no j m).elim⟩,zG _⟩,⟨fun j m=>(no j m).elim,fun j m=>(no j m).elim,fun i j m=>(no i m).elim⟩,fun k m=> ?_,fun j m=>(no j m).elim,rfl,zG _,fun _=>zG _⟩
 cases m
theorem yV (N:Nt prog w s.heap a b us ks) (hk:ks.length≤16) {x:Value} {kt:KT} (hxr:∃c,x= .ref c) (hx:KAt s.heap x kt) (hd:kt.depth≤8) (hu:A.units+20 < cLine) {Q:Shared→Prop}
 (q:∀h',(h'=s.heap∨Heap.SameBut a s.heap h')→Nt prog w h' a b (us++ [x]) (ks++ [kt])→Q {s with heap:=h'}):
 wpAny (model prog w) A (setAddHashed a x (kt.hash prog w)) (fun _ s'=>Q s') X s:=by
 obtain ⟨M,P,E,kf,o,es,ep,t,hM,S,D,mem,src,ul,len,m7⟩:=N
 have old:∀ {e:Int×Value} {k:KT} {i:Nat},us[i]?=some e.2∧ks[i]?=some k→(us++ [x])[i]?=some e.2∧(ks++ [kt])[i]?=some k:=fun ⟨h1,h2⟩=>⟨by rw [zV (zd.mp h1).1];exact h1,by rw [zV (zd.mp h2).1];exact h2⟩
 have n3:(P.length+1)*5 < M*3∨M=7∧P.length=4:=by
  rcases hM with rfl|rfl
  · have:=m7 rfl
    by_cases z:P.length=4
    · exact .inr ⟨rfl,z⟩
    · exact .inl (by omega)
  · exact .inl (by omega)
 refine ya hM S D n3 hxr hx hd hu (fun j hj e=> ?_) fun h' M' P' E' kf' hne sb hM' hSi hSx hl tr1 tr2 tr3=> ?_
 · refine q s.heap (.inl rfl) ⟨M,P,E,kf,o,es,ep,t,hM,S,D,fun k hk=> ?_,fun j hj=> ?_,by rw [z9,z9,ul];rfl,by rw [z9];omega,m7⟩
   · rcases zf.mp hk with h|h
     · exact mem k h
     · exact ⟨j,hj,by rw [ze.mp h];exact e⟩
   · obtain ⟨i,h⟩:=src j hj
     exact ⟨i,old h⟩
 · obtain ⟨o',es',ep',t',S'⟩:=hSi
   refine q h' (.inr sb) ⟨M',P',E',kf',o',es',ep',t',?_,S',hSx,fun k hk=> ?_,fun j hj=> ?_,by rw [z9,z9,ul];rfl,by rw [hl,z9];show _≤_+1;omega,fun e7=> ?_⟩
   · rcases hM' with ⟨rfl,_⟩|rfl
     · exact hM
     · exact .inr rfl
   · rcases zf.mp hk with h|h
     · obtain ⟨i,hi,e⟩:=mem k h
       obtain ⟨j,hj,_,e2⟩:=tr1 i hi
       exact ⟨j,hj,e2.trans e⟩
     · obtain ⟨j,hj,_,e2⟩:=tr2
       exact ⟨j,hj,by rw [ze.mp h];exact e2⟩
   · rcases tr3 j hj with ⟨i,hi,e1,e2⟩|⟨e1,e2⟩
     · obtain ⟨p,h⟩:=src i hi
       rw [e1,e2]
       exact ⟨p,old h⟩
     · rw [e1,e2]
       exact ⟨us.length,by rw [A5 (yZ _)];simp,by rw [ul,A5 (yZ _)];simp⟩
   · rcases hM' with ⟨rfl,z⟩|rfl
     · subst e7
       omega
     · cases e7
end
section
variable {prog:Program} {w:World} {A:Around} {R:Result→Shared→Prop} {I:Addr} {fp wr:List Addr} {G:Array GenState→Array GenState→Prop} {n:Nat} {P:Nat→Value→Prop} {St:Nat→Shared→Prop} {b:Bool} {vs:List Value} {ks:List KT}
theorem xG (W:WalksS prog w A.in1 I fp wr G n P St) (S:Addr) (hSf:S∉fp) (hval:∀i v,P i v→vs[i]?=some v) (hn:n≤16) (hl:ks.length=n) (hd:∀k∈ks,k.depth≤8) (hr:∀v∈vs,∃c,v= .ref c) (hu:A.in1.units+20 < cLine)
 (hq:∀i s s',St i s→Moved wr G s s'→∀c o items m,s.heap.get? c=some o→o.data= .seq items m→s'.heap.get? c=some o) (hS:∀i s,St i s→True):
 ∀(k i:Nat) (s:Shared),n - i=k→i≤n→St i s→KsAt s.heap vs ks→Nt prog w s.heap S b (vs.take i) (ks.take i)→
  (∀s',Moved (S::wr) G s s'→Nt prog w s'.heap S b vs ks→R (.ok (.ret .none)) s')→codeAny (model prog w) A (.builtin "set.update.loop" ⟨[.ref S, .ref I],[]⟩) R s:=by
 have hSw:S∉wr:=fun h=>hSf (W.sub _ h)
 have hsub:∀b∈wr,b∈S::wr:=fun b hb=>z6 _ hb
 intro k
 induction k with
 |zero=>
  intro i s hk hi hst hK N hR
  have hin:i=n:=by omega
  subst hin
  refine codeAny_builtin F.entry_set_update_loop ?_
  rw [Around.under_plainId F.plain_set_update_loop _]
  show wpAny _ A.in1 (pyNext (.ref I) >>=_) _ _ s
  refine wpAny_bind (W.done s _ _ hst fun s' hm=> ?_)
  show wpAny _ A.in1 (ret Value.none) _ _ s'
  have lv:=hK.len
  rw [List.take_of_length_le (by omega),List.take_of_length_le (by omega)] at N
  exact wpAny_pure (hR s' (hm.mono hsub) (N.kp (fun o e=>hm.heap S _ hSw e) (hq _ _ _ hst hm)))
 |succ k ih=>
  intro i s hk hi hst hK N hR
  have hlt:i < n:=by omega
  refine codeAny_builtin F.entry_set_update_loop ?_
  rw [Around.under_plainId F.plain_set_update_loop _]
  show wpAny _ A.in1 (pyNext (.ref I) >>=_) _ _ s
  refine wpAny_bind (W.item i s _ _ hlt hst fun v s' hP hst' hm=> ?_)
  have ev:=hval i v hP
  have K':∀c o items m,s.heap.get? c=some o→o.data= .seq items m→s'.heap.get? c=some o:=hq _ _ _ hst hm
  have hK':KsAt s'.heap vs ks:=KsAt.keep K' hK
  obtain ⟨kt,ek,hv⟩:=hK'.get ev
  have hdk:=hd kt (z7 ek)
  obtain ⟨c,rfl⟩:=hr v (z7 ev)
  show wpAny _ A.in1 (holding [Value.ref c] (setAdd S (.ref c)) >>=_) _ _ s'
  refine wpAny_bind (wpAny_holding ?_)
  unfold setAdd
  refine wpAny_holding ?_
  refine wpAny_bind (vN (prog:=prog) (w:=w) 8 hdk (by omega) hv ?_)
  have N':Nt prog w s'.heap S b (vs.take i) (ks.take i):=N.kp (fun o e=>hm.heap S _ hSw e) K'
  refine wpAny_mono (yV (s:= {s' with toks:=s'.toks+kt.draws}) (b:=b) (Q:=fun s2=>_) N' (by rw [zm];omega) ⟨c,rfl⟩ hv hdk hu fun h' hsb N2=> ?_) (fun _ s2 h=>h) fun _ _ h=>h
  have N3:Nt prog w h' S b (vs.take (i+1)) (ks.take (i+1)):=by
   rw [List.take_add_one,List.take_add_one,ek,ev]
   exact N2
  have hsb2:∀c o,c≠S→s'.heap.get? c=some o→h'.get? c=some o:=fun c o hc e=>by
   rcases hsb with z|z
   · rw [z];exact e
   · rw [z.2 c hc];exact e
  have hSet:∀c o items m,s'.heap.get? c=some o→o.data= .seq items m→c≠S:=fun c o items m e d z=>by
   obtain ⟨M',P',E',kf',o',es',ep',t',_,S',_⟩:=N'
   rw [z,S'.get] at e
   cases e
   rw [S'.data] at d
   cases d
  refine wpAny_pure ⟨plainId_quiet F.plain_set_update_loop _,ih (i+1) _ (by omega) hlt (W.frame _ s' _ _ hst' (A8 _ _) fun b hb o e=> ?_) (KsAt.keep (fun c o items m e d=>hsb2 c o (hSet c o items m e d) e) hK') N3 fun s'' hm'' hS''=> ?_⟩
  · exact hsb2 b o (fun h:b=S=>hSf (by rw [←h];exact hb)) e
  · refine hR s'' (Moved.trans W.gtrans ((hm.mono hsub).then_heap (A8 _ _) fun b o hb e=> ?_) hm'') hS''
    exact hsb2 b o (fun h:b=S=>hb (by rw [h];exact yY)) e
end
section
variable {prog:Program} {w:World} {A:Around} {E:Value→Shared→Prop} {s:Shared}
theorem set_listT {l:Addr} {items:Array Value} {ks:List KT} {Q:Value→Shared→Prop} (hh:A.handled=none) (hl:s.heap.IsList l items) (hi:KsAt s.heap items.toList ks) (hr:∀v∈items.toList,∃c,v= .ref c) (hd:∀k∈ks,k.depth≤8) (hb:items.size≤16) (hu:A.units+60 < cLine)
 (h:∀(h':Heap) (tk:Nat),Nt prog w h' s.heap.objs.size (!(w.params.followText "set-order")) items.toList ks→(∀b o,b < s.heap.objs.size→s.heap.get? b=some o→h'.get? b=some o)→Q (.ref s.heap.objs.size) {s with heap:=h',toks:=tk}):
 wpAny (model prog w) A (call (.type "set") [.ref l]) Q E s:=by
 generalize hB:(!(w.params.followText "set-order"))=B at h
 obtain ⟨c,tl,hmro⟩:=F.called_set.mro
 have hmade:=F.called_set.made
 have hsub:=F.called_set.sub
 refine wpAny_call (codeAny_of_tree ?_)
 show wpAny _ _ (callAny (.type "set") _) _ _ _
 refine wpAny_pure ⟨Code.quiet_builtin _ (by decide +kernel),codeAny_builtin F.entry_type_call ?_⟩
 rw [Around.under_plain (weight_type_call_type "set" [.ref l] []) rfl]
 have h1:=F.called_set.notType
 have h2:=F.called_set.canCreate
 have hct:=F.typeCall_set_1 (.ref l)
 repeat (any_goals (first|assumption|wp_step))
 refine codeAny_mono (Sn.new_n (.ref l) (E:=E) (Q₁:=fun obj s₁=>obj= .ref s.heap.objs.size∧s₁= {s with heap:=s.heap.push (Sn.freshO B)}) ⟨rfl,by rw [hB]⟩) fun r s₁ hr=> ?_
 cases r with
 |error e=>exact hr
 |ok fl=>
  cases fl with
  |ret obj=>
   obtain ⟨rfl,rfl⟩:=hr
   have hS:(s.heap.push (Sn.freshO B)).get? s.heap.objs.size=some (Sn.freshO B):=Heap.get?_push_size _ rfl
   have hT:Shared.TypeIs {s with heap:=s.heap.push (Sn.freshO B)} (.ref s.heap.objs.size) "set":=⟨_,hS,rfl⟩
   have hli:=F.called_set.init.lookup
   have hbi:=F.called_set.init.bind (.ref s.heap.objs.size)
   repeat (any_goals (first|assumption|wp_step))
   refine codeAny_mono (codeAny_call_builtin (R:=wants (fun r s₂=>r= .none∧∃h' tk,s₂= {s with heap:=h',toks:=tk}∧Nt prog w h' s.heap.objs.size B items.toList ks∧
    (∀b o,b < s.heap.objs.size→s.heap.get? b=some o→h'.get? b=some o)) E) F.called_set.init.plain F.entry_set_init (check_set_init_1 hT ?_)) fun r₂ s₂ hr₂=> ?_
   · obtain ⟨ol,hol,hcl,nl,hdl⟩:=hl
     obtain ⟨ocls,odict,odata,oslots⟩:=ol
     simp only at hcl hdl
     subst hcl;subst hdl
     have hol':(s.heap.push (Sn.freshO B)).get? l=some {cls:= .type "list",dict:=odict,data:= .seq items nl,slots:=oslots}:=Heap.get?_push_of_some _ hol
     have hsls:=F.sub_list_set
     have hslf:=F.sub_list_frozenset
     have hne:(Value.type "list"==Value.type "dict")=false:=by decide
     have hl1:(s.heap.push (Sn.freshO B)).IsList l items:=⟨_,hol',rfl,nl,rfl⟩
     unfold Sn.freshO at*
     unfold Builtin.«set.__init__» noKeywords Builtin.Frozenset.updateFrom
     generalize hPI:pyIter=PI
     wp_walk
     subst hPI
     refine wpAny_pyIter_list hl1 ?_
     refine wpAny_bind (wpAny_runValue ?_)
     have hlS:l < s.heap.objs.size:=Heap.lt_size hol
     have hh3:A.in1.in1.in1.handled=none:=by simp [hh]
     have hneI:l≠(s.heap.push {cls:= .type "set",dict:=none,data:= .set #[] 0 (.fresh 0 0 B)}).objs.size:=by
      rw [Heap.size_push];exact zg (Al hlS)
     have hSf:s.heap.objs.size∉ [(s.heap.push {cls:= .type "set",dict:=none,data:= .set #[] 0 (.fresh 0 0 B)}).objs.size,l]:=by
      rw [Heap.size_push];simp only [zc,ze,zv,or_false,not_or]
      exact ⟨zg (Nat.lt_succ_self _),Nat.ne_of_gt hlS⟩
     have hK:∀(oI:Obj) c o its m,s.heap.get? c=some o→o.data= .seq its m→((s.heap.push {cls:= .type "set",dict:=none,data:= .set #[] 0 (.fresh 0 0 B)}).push oI).get? c=some o:=fun oI c o its m e _=>Heap.get?_push_of_some _ (Heap.get?_push_of_some _ e)
     refine xG (b:=B) (vs:=items.toList) (ks:=ks) ((Walks.list hh3 _ l hneI items).toS) s.heap.objs.size hSf (fun i v hv=>by rw [zP];exact hv) hb ?hlen hd hr ?hu ?hq (fun _ _ _=>trivial) (items.size - 0) 0 _ (by omega) (zG _)
      ⟨⟨_,Heap.get?_push_size _ rfl,rfl,rfl⟩,(hl1.push _)⟩ (KsAt.keep (hK _) hi) ?hS0 ?hR
     case hlen=>have:=hi.len;rw [zk] at this;omega
     case hu=>simp;omega
     case hq=>
      intro i s1 s2 st hm c o its m e d
      refine hm.heap c o (fun z=> ?_) e
      obtain ⟨⟨oI,e1,e2,e3⟩,_⟩:=st
      have z':=ze.mp z
      rw [z',e1] at e
      cases e
      rw [e3] at d
      cases d
     case hS0=>exact tH (Heap.get?_push_of_some _ hS)
     case hR=>
      intro s' hm hS'
      obtain ⟨h',g',d',tk',os'⟩:=s'
      have eg:g'=s.gens:=hm.gens
      have ed:d'=s.drawn:=hm.drawn
      have eo:os'=s.os:=hm.os
      subst eg;subst ed;subst eo
      show wpAny _ _ _ _ _ _
      refine wpAny_pure ?_
      show wpAny _ _ (ret Value.none) _ _ _
      refine wpAny_pure ⟨rfl,h',tk',rfl,hS',fun b o hb e=> ?_⟩
      have hb1:b≠s.heap.objs.size:=zg hb
      have hb2:b≠(s.heap.push {cls:= .type "set",dict:=none,data:= .set #[] 0 (.fresh 0 0 B)}).objs.size:=by
       rw [Heap.size_push];exact zg (Al hb)
      exact hm.heap b o (by simp only [zc,ze,zv,or_false,not_or];exact ⟨hb1,hb2⟩) (Heap.get?_push_of_some _ (Heap.get?_push_of_some _ e))
   · cases r₂ with
     |error e=>exact hr₂
     |ok fl₂=>
      cases fl₂ with
      |ret r=>
       obtain ⟨rfl,h',tk,rfl,hS',hk'⟩:=hr₂
       repeat (any_goals (first|assumption|wp_step))
       exact h _ _ hS' hk'
      |_=>exact hr₂.elim
  |_=>exact hr.elim
end
end Sg
namespace L2
open PySem PySem.Spec PyProof.Rows Tre Dj
theorem oP {H:Hp} {v:V} {t:Tr} (h:∃zs,t= .tup zs) (hv:TrAt H v t):∃b,v= .ref b:=by
 obtain ⟨zs,rfl⟩:=h
 unfold TrAt at hv
 obtain ⟨r,vs,e,_⟩:=hv
 exact ⟨r,e⟩
theorem pG:∀ts:List Tr,(ktTs ts).length=ts.length
 | []=>by rw [ktTs];rfl
 |t::ts=>by rw [ktTs,zw,zw,pG ts]
section
variable {X:Cx}
def wu (w:World):List V→Hp→VK→Prop:=fun xs H Q=>∃(l:Addr) (vs:List V) (ts:List Tr),xs= [.ref l]∧H l=some (.lst vs)∧TrsAt H vs ts∧ts.length≤16∧(∀t∈ts,Kp t∧t.depth≤8∧∃zs,t= .tup zs)∧
 ∀(D:Addr) (cs:List Addr) (us:List Tr),H D=none→TrsAt H (cs.map V.ref) us→us.Nodup→(∀t,t∈us↔t∈ts)→us.length≤16→Q (.ref D) (upd H D (sT w D cs))
theorem jS {H:Hp} {E:Nat→Int×Value} {kf:Nat→Tk.KT} {vs:List V} {as:List Value} {ts:List Tr} (hT:TrsAt H vs ts) (rv:Vals vs as) (ty:∀t∈ts,∃zs,t= .tup zs):∀(L:List Nat),(∀j∈L,∃i:Nat,as[i]?=some (E j).2∧(ktTs ts)[i]?=some (kf j))→
 ∃(cs:List Addr) (us:List Tr),(L.map fun j=>(E j).2)=cs.map Value.ref∧TrsAt H (cs.map V.ref) us∧us.map ktT=L.map kf∧∀t∈us,t∈ts
 | [],_=>⟨[],[],rfl, .nil,rfl,fun t m=>by cases m⟩
 |j::L,h=>by
  obtain ⟨cs,us,h1,h2,h3,h4⟩:=jS hT rv ty L fun i m=>h i (z6 _ m)
  obtain ⟨i,e1,e2⟩:=h j yY
  obtain ⟨t,et,ek⟩:=lr e2
  obtain ⟨v,ev,hv⟩:=hT.get et
  obtain ⟨a,ea,ra⟩:=rv.get ev
  have mt:=z7 et
  obtain ⟨b,rfl⟩:=oP (ty t mt) hv
  have e3:(E j).2= .ref b:=by
   rw [e1] at ea
   cases ea
   exact ra
  refine ⟨b::cs,t::us,by rw [zo,zo,e3,h1], .cons hv h2,by rw [zo,zo,h3,ek],fun u m=> ?_⟩
  rcases zc.mp m with rfl|m
  · exact mt
  · exact h4 u m
theorem qP (hc:X.calm=true) (hu:X.A.units+60 < cLine):dJ X (.type "set") (wu X.w):=by
 intro pins s σ H xs us Q I r h
 obtain ⟨l,vs,ts,rfl,hl,hT,h4,hty,q⟩:=h
 obtain ⟨u,rfl,ru⟩:=eJ r
 cases ru
 obtain ⟨as,rv,pl,_⟩:=I.list (SqL.of hl)
 have l1:=hT.len
 have l2:=rv.length
 have kp:Kps ts:=lw fun t m=>(hty t m).1
 have hK:Tk.KsAt s.heap as (ktTs ts):=kats_of I.hok I.kIn (kvts_of kp hT) rv
 refine Sg.set_listT (items:=as.toArray) (ks:=ktTs ts) (I.ok.hd hc) pl.isList (by simpa using hK) (fun v m=> ?_) (fun k m=> ?_) (by rw [z5];omega) hu fun h' tk N kp'=> ?_
 · have m':v∈as:=by simpa using m
   obtain ⟨i,hi,e⟩:=zX m'
   have hi':i < ts.length:=by omega
   obtain ⟨x,e1,e2⟩:=hT.get (i:=i) (t:=ts[i]) (yX hi')
   obtain ⟨a,e3,e4⟩:=rv.get e1
   obtain ⟨b,rfl⟩:=oP (hty _ (List.getElem_mem hi')).2.2 e2
   rw [yX hi,e] at e3
   cases e3
   exact ⟨b,e4⟩
 · obtain ⟨i,hi,e⟩:=zX m
   obtain ⟨t,et,ek⟩:=lr (ts:=ts) (i:=i) (k:=k) (by rw [yX hi,e])
   have mt:=z7 et
   rw [ek,u5 (hty t mt).1]
   exact (hty t mt).2.1
 · have kpp:∀b o,s.heap.get? b=some o→h'.get? b=some o:=fun b o e=>kp' b o (Heap.lt_size e) e
   obtain ⟨M,P,E,kf,o,es,ep,t,hM,S,D,mem,src,ul,len,_⟩:=N
   obtain ⟨cs,us,h1,h2,h3,hm⟩:=jS (E:=E) (kf:=kf) hT rv (fun t m=>(hty t m).2.2) P fun j hj=>by
    obtain ⟨i,e1,e2⟩:=src j hj
    exact ⟨i,by simpa using e1,e2⟩
   have nd:us.Nodup:=by
    have:(us.map ktT).Nodup:=by
     rw [h3]
     have nb:P.Nodup:=Sg.Up.nd S.tb.up
     refine List.Pairwise.map kf ?_ (List.Pairwise.and_mem.mp nb)
     intro i j ⟨mi,mj,ne⟩ e
     exact ne (D.inj i j mi mj e)
    exact List.Pairwise.of_map ktT (fun a b h e=>h (by rw [e])) this
   have hmem:∀t,t∈us↔t∈ts:=fun t=>⟨hm t,fun mt=>by
    obtain ⟨j,hj,e⟩:=mem _ (vC mt)
    have:kf j∈us.map ktT:=by
     rw [h3]
     exact zx.mpr ⟨j,hj,rfl⟩
    obtain ⟨u,mu,eu⟩:=zx.mp this
    rw [←tZ (hty u (hm u mu)).1 (hty t mt).1 (eu.trans e)]
    exact mu⟩
   have ulen:us.length≤16:=by
    have e:=congrArg List.length h3
    rw [yW,yW] at e
    have lk:(ktTs ts).length=ts.length:=pG ts
    omega
   have rs:∃es ep t,Sn.RS h' s.heap.objs.size es ep t∧Sn.Tk (!(X.w.params.followText "set-order")) t∧es.toList.map (·.2)=cs.map Value.ref:=by
    refine ⟨es,ep,t,⟨⟨o,S.get,S.ex,S.data⟩,S.fits⟩,⟨S.led,?_⟩,?_⟩
    · rw [S.tb.place]
      exact S.tb.up
    · rw [S.es,List.map_map]
      exact h1
   refine ⟨.ref s.heap.objs.size,upd H s.heap.objs.size (sT X.w s.heap.objs.size cs),I.laid (t':=tk) kpp (yZ _) ⟨rs,⟨o,S.get⟩,fun h1 h2 ⟨es,ep,t,r,k,e⟩ f=>⟨es,ep,t,r.kp f,k,e⟩⟩,rfl,q _ cs us (I.hok.fresh (yZ _)) h2 nd hmem ulen⟩
end
end L2
namespace L2
open PySem Tre
section
variable {X:Cx}
def ww (w:World):List V→Hp→VK→Prop:=fun xs H Q=>∃(a:Addr) (cs:List Addr),xs= [.ref a]∧H a=some (sT w a cs)∧cs.length≤1000∧Q (.int (cs.length:Int)) H
theorem qQ:dJ X (.builtin "len") (ww X.w):=by
 intro pins s σ H xs us Q I r h
 obtain ⟨a,cs,rfl,ha,hl,q⟩:=h
 obtain ⟨u,rfl,ru⟩:=eJ r
 cases ru
 obtain ⟨⟨es,ep,t,rs,_,hes⟩,_,_⟩:=(show ObjOk X.prog X.w H s.heap a (sT X.w a cs) from I.hok a _ ha)
 have esz:es.size=cs.length:=by
  have:=congrArg List.length hes
  rw [yW,yW,zk] at this
  exact this
 obtain ⟨o,ho,hx,hd⟩:=rs.ex
 refine call_len_set ho hx hd rs.fits (by omega) ?_
 rw [esz]
 exact ⟨.int _,H,I.tok _,⟨_,rfl⟩,q⟩
end
end L2
namespace K25
open PySem L2 Mth Tre Wd Dj Su
theorem wN {s e g ew:Nat} {d:Pd} (h:PdOk s e g ew d):Kp (atT d)∧(atT d).depth≤8:=by
 have hp:∀t∈d.1.map prT,Kp t∧t.depth≤4:=fun t m=>by
  obtain ⟨q,mq,rfl⟩:=zx.mp m
  have hl:=(h.us.ln q mq).2
  have hk:=yb (h.us.gq q mq).ty
  refine ⟨?_,e5 fun t m=> ?_⟩
  · show Kp (.tup [q.1,frT q.2])
    simp only [Kp,Kps,frT,and_true]
    exact hk
  · simp only [zc,zv,or_false] at m
    rcases m with rfl|rfl
    · exact hl
    · simp [frT,Tr.depth,Trs.depth]
 refine ⟨?_,?_⟩
 · show Kp (.tup [s_ "most", .tup (d.1.map prT),frT d.2.1])
   simp only [Kp,Kps,frT,and_true,true_and]
   exact lw fun t m=>(hp t m).1
 · have h1:(Tr.tup (d.1.map prT)).depth≤5:=e5 fun t m=>(hp t m).2
   have:(atT d).depth≤6:=e5 fun t m=>by
    simp only [zc,zv,or_false] at m
    rcases m with rfl|rfl|rfl
    · simp [Tr.depth]
    · exact h1
    · simp [frT,Tr.depth,Trs.depth]
   omega
theorem pC:∀ {ts us:List Tr},ts.Nodup→(∀t∈ts,t∈us)→ts.length≤us.length
 | [],us,_,_=>zG _
 |t::r,us,nd,h=>by
  obtain ⟨a,b,rfl⟩:=List.append_of_mem (h t yY)
  have hn:=zU.mp nd
  have:=pC (us:=a++b) hn.2 fun x m=>by
   have hx:=h x (z6 _ m)
   have ne:x≠t:=fun z=>hn.1 (z▸m)
   rw [zf,zc] at hx
   rw [zf]
   rcases hx with hx|hx|hx
   · exact .inl hx
   · exact absurd hx ne
   · exact .inr hx
  rw [z9] at this
  rw [z9,zw,zw]
  omega
theorem wz:∀ {us ts:List Tr},us.Nodup→(∀t∈us,t∈ts)→ts.length≤us.length→ts.Nodup
 | [],ts,_,_,h=>by
  have:ts= []:=List.length_eq_zero_iff.mp (by simpa using h)
  rw [this]
  exact List.nodup_nil
 |t::r,ts,nd,h,hl=>by
  obtain ⟨a,b,rfl⟩:=List.append_of_mem (h t yY)
  have hn:=zU.mp nd
  have hs:∀x∈r,x∈a++b:=fun x m=>by
   have hx:=h x (z6 _ m)
   have ne:x≠t:=fun z=>hn.1 (z▸m)
   rw [zf,zc] at hx
   rw [zf]
   rcases hx with hx|hx|hx
   · exact .inl hx
   · exact absurd hx ne
   · exact .inr hx
  rw [z9,zw,zw] at hl
  have hab:=wz hn.2 hs (by rw [z9];omega)
  have nt:t∉a++b:=fun m=>by
   have:=pC (ts:=t::r) (us:=a++b) nd fun x mx=>(zc.mp mx).elim (fun z=>z▸m) (hs x)
   rw [z9,zw] at this
   omega
  exact (List.perm_middle.nodup_iff).mpr (zU.mpr ⟨nt,hab⟩)
theorem uU {ts us:List Tr} (nd:us.Nodup) (hm:∀t,t∈us↔t∈ts):us.length < ts.length↔¬ts.Nodup:=by
 constructor
 · intro h nt
   have:=pC nt fun t m=>(hm t).mpr m
   omega
 · intro h
   have h1:=pC nd fun t m=>(hm t).mp m
   by_cases z:us.length < ts.length
   · exact z
   · exact absurd (wz nd (fun t m=>(hm t).mp m) (by omega)) h
theorem sR {s e g ew:Nat} {d:Pd} (h:PdOk s e g ew d):(pdT d).depth≤11:=e5 fun t m=>by
 simp only [zc,zv,or_false] at m
 rcases m with rfl|rfl|rfl
 · exact (pZ h).2
 · simp [Tr.depth]
 · simp [frT,Tr.depth,Trs.depth]
theorem rC {r:R2} {b:V} {mp:List (Option Nat)} {wi:TI} {te:TE} {σ rest:L2.St} {H:Hp} {Q:Bool→Hp→Prop} (e:subS mp σ=none::rest) (h:wi σ H fun J H1=>∀D,H1 D=none→jB J D te rest (fun y H2=>r b y H2 fun x H3=>∃c,x= .bl c∧Q c H3) H1):
 oU (tOp r (tC b) (db mp wi (aV 0) cA te)) σ H Q:=cJ e h
theorem rD {r:R2} {b:V} {mp:List (Option Nat)} {wi:TI} {te:TE} {t u:TS} {Z:Ends} {σ rest:L2.St} {H:Hp} (e:subS mp σ=none::rest) (h:wi σ H fun J H1=>∀D,H1 D=none→jB J D te rest (fun y H2=>r b y H2 fun x H3=>∃c,x= .bl c∧if c=true then t Z σ H3 else u Z σ H3) H1):
 tIfS (oU (tOp r (tC b) (db mp wi (aV 0) cA te))) t u Z σ H:=cJ e h
section
variable {P:Program} {w:World} {K:PySem.W.Frag} {mg:Str→Option Value} {base:Heap}
def rS:Sp:=fun vs H Q _=>∃(v:V) (ds:List Pd) (s n e g ew:Nat),vs= [v]∧TrAt H v (.tup (ds.map pdT))∧Bn s n e g ew ds∧(¬Gr ds→∀H',Same H H'→Q .non H')∧
 (Gr ds→∀x H' rs,Same H H'→k9 (lits ds) rs→TrAt H' x (.tup rs)→Q x H')
theorem scDu:aD ["_law_parts_here","_law_atoms","_law_whole_here","_law_bound"] ["_law_parts_here"] (ah sDue):=⟨rfl,rfl,rfl,by decide +kernel,rfl,by decide +kernel,by decide +kernel⟩
theorem xC {f fT fR:Addr} {fd dT dR:FuncData} (F:Fun K "_law_due" "_law_due" sDue f fd) (B:Blt mg) (mS0:mg "set"=none)
 (gT:FnOk P w K mg base CX0 5 fT dT ["_law_parts_here"] gK) (kT:PySem.W.keepIn K (.ref fT)=true) (bT:Binds K dT ["_law_parts_here"] []) (mT:mg "_law_totals"=some (.ref fT))
 (gR:FnOk P w K mg base CX0 1 fR dR ["_law_literals"] im) (kR:PySem.W.keepIn K (.ref fR)=true) (bR:Binds K dR ["_law_literals"] []) (mR:mg "_law_row"=some (.ref fR)):FnOk P w K mg base CX0 6 f fd ["_law_parts_here"] rS:=by
 refine F.ok scDu (fun vs H Q E h=> ?_) (fun cdv A outer s H vs Q E hr h=> ?_)
 · refine hide fun q_ e_=> ?_
   obtain ⟨v,ds,_,_,_,_,_,rfl,_⟩:=h
   subst e_
   rfl
 refine hide fun q_ e_=> ?_
 obtain ⟨v,ds,s_,n,e,g,ew,rfl,hv,bn,kN,kQ⟩:=h
 subst e_
 have hr1:Room 1 _:=hr.mono (by decide)
 have hun:=hr.units
 have hu50:_+50 < cLine:=zq (zM (by decide) _) hun
 have hu60:_+60 < cLine:=zq (zM (by decide) _) hun
 refine ⟨_,af (l5 (NC:= ["_law_part_here"]) (mp:= [none]) (i:=1) rfl scDu.nd rfl rfl rfl (cL (pv 0)) (fun _ _ _ _ _=>ax (i:=0) (by simp) rfl (Or.inl rfl)) (fun _ _ _ _ _=>bw) (fun _ _ _ _ _=>aw (r:=rIxT K) aq (pv 0) ac fun _ _=>rfl))
  (af (fk (ai gT hr rfl mT kT bT .nil ak (a8 (pv 0) a9)) (cw rfl (aI (ax (i:=2) scDu.nd rfl (Or.inl rfl)) (aI (ax (i:=3) scDu.nd rfl (Or.inl rfl)) ci))))
  (af (aP (aE (xq hu50) cQ (bZ (NC:= ["_law_part_here"]) (mp:= [none]) rfl (cL (pv 0)) (fun _ _ _ _ _=>ax (i:=0) (by simp) rfl (Or.inl rfl)) (fun _ _ _ _ _=>bw) (fun _ _ _ _ _=>bJ pA (aw (r:=rIxT K) aq (aw (r:=rIxT K) aq (pv 0) ac fun _ _=>rfl) ac fun _ _=>rfl) ac (aA _))) (by with_unfolding_all rfl)) (aj (am eG)) au)
  (af (aP (PW.pt (cP (aE (jh hu50) (pv 0) (aB a9) (aA _)) (cP (aE pA (ar (r:=ww w) qQ rfl B.le PySem.boot_len (a8 (cn (r:=wu w) (qP rfl hu60) rfl mS0 PyProof.Rows.boot_set (a8 (pv 1) a9)) a9)) (ar bp rfl B.le PySem.boot_len (a8 (pv 1) a9)) (aA _)) (cP (aE (o7 hu50) (pv 2) (aB a9) (aA _)) (cR (aE gh (aw aq (pv 3) ac fun _ _=>rfl) ac (aA _))))))) (aj (am eG)) au)
  (af (aP (PW.pt (jd (aE bY (aw aq (pv 3) ac fun _ _=>rfl) ac (aA _)) (hJ (aE (pj hu50) cQ (bZ (NC:= ["_law_part_here"]) (mp:= [none]) rfl (cL (pv 0)) (fun _ _ _ _ _=>ax (i:=0) (by simp) rfl (Or.inl rfl)) (fun _ _ _ _ _=>bw) (fun _ _ _ _ _=>aw (r:=rIxT K) aq (pv 0) ac fun _ _=>rfl)) (by with_unfolding_all rfl))))) (aj (am eG)) au)
  (aj (am (ai gR hr1 rfl mR kR bR .nil ak (a8 (bZ (NC:= ["_law_part_here"]) (mp:= [none]) rfl (cL (pv 0)) (fun _ _ _ _ _=>ax (i:=0) (by simp) rfl (Or.inl rfl)) (fun _ _ _ _ _=>bw) (fun _ _ _ _ _=>aB (a8 (aw (r:=rIxT K) aq (pv 0) ac fun _ _=>rfl) (a8 (iE (aw (r:=rIxT K) aq (pv 0) ac fun _ _=>rfl)) a9)))) a9)))))))),?_⟩
 have hL20:(20000:Nat)≤sizeLine:=by decide +kernel
 refine hide fun q_ e_=> ?_
 obtain ⟨pa,xs,rfl,hpa,hxs⟩:=at_t hv
 subst e_
 have xl:=hxs.len
 rw [yW] at xl
 have dl:=bn.len
 have okd:∀ {i:Nat} {d:Pd},ds[i]?=some d→PdOk s_ e g ew d:=fun ed=>bn.ok _ (z7 ed)
 have nope:∀H',Same H H'→¬Gr ds→Q .non H':=fun H' sH ng=>kN ng H' sH
 refine ke rfl ?_
 refine ⟨_,rfl,pa,rfl,⟨xs,SqT.of hpa⟩,fun L nL=> ?_⟩
 refine dy (xs:=xs) (fun i acc H'=>Same H H'∧H' L=some (.lst acc)∧TrsAt H' acc ((ds.take i).map atT)) ⟨ae nL,aa,by rw [zQ];exact .nil⟩ (fun i acc H' p=>SqT.of (p.1 _ _ hpa)) ?_ ?_
 · rintro i z acc H' hi ez ⟨sH,hL,hA⟩
   refine hide fun q_ e_=> ?_
   obtain ⟨us,ff,wt,b,r,a,ru,rf,rw',ed,rfl,h1,ha,hu,hrf,hrw⟩:=hV (hxs.mono (Kd.of_same sH)) ez
   subst e_
   have al:=hA.len
   rw [yW,zm] at al
   refine ⟨_,rfl,r,_,0, .ref a,rfl,rfl,SqT.of h1,rfl,?_⟩
   have kd:=Kd.upd (ys:=acc++ [.ref a]) hL
   refine CompN.mk hi (by omega) hL ⟨br nL sH,aa,?_⟩
   rw [be ed,zh]
   exact TrsAt.app (.cons ((mH (wt:=wt) (b:=b) ha hu hrf).mono kd) .nil) (hA.mono kd)
 rintro acc H1 ⟨s1,hL1,hA1⟩
 rw [xl,zL] at hA1
 refine aR ?_
 have hl8:=bn.l8
 have hg8:=bn.g8
 have m1:ds.length*(e+ew+3)≤6*(e+ew+3):=zT _ dl
 have m2:ds.length*(g+ew+3)≤6*(g+ew+3):=zT _ dl
 refine ⟨_,rfl,pa,xs,ds,s_,e,g,ew,rfl, .inr (s1 _ _ hpa),hxs.mono (Kd.of_same s1),bn.ok,by have:=bn.nn;have:=bn.n64;omega,bn.s64,bn.s8,by omega,by omega,by have:=bn.e6;omega,by have:=bn.g9;omega,by have:=bn.w9;omega,fun x H2 as bd s2 hx tts uas gb=> ?_⟩
 refine hide fun q_ e_=> ?_
 obtain ⟨px,wv,bv,rfl,hpx,hwv,hbv⟩:=dY hx
 subst e_
 refine ⟨px,_,rfl,SqT.of hpx,rfl,_,_,rfl,_,_,rfl,rfl,?_⟩
 have s12:=s1.trans s2
 have hL2:=s2 _ _ hL1
 have hA2:=hA1.mono (Kd.of_same s2)
 have zz:=lP uas.asc tts.sh tts.tt
 have sx:=tts.sb.1
 have p1:=se sx
 have p2:=si sx
 rw [tts.tb] at p1 p2
 clear hL1 hA1 s1 s2 hx hpx
 dsimp only
 refine dg (fun σ' H'=>(ds.all fun d=>decide (0 < d.2.2.1.1))=true∧Same H2 H'∧σ'= [some (.ref pa),some (.ref L),some wv,some bv]) ?_ fun nx hnx=> ?_
 rotate_left
 · refine rD (rest:= []) rfl ?_
   refine ⟨_,rfl,pa,rfl,⟨xs,SqT.of (s12 _ _ hpa)⟩,fun M nM=> ?_⟩
   refine dy (xs:=xs) (fun i acc H'=>Same H2 H'∧H' M=some (.lst acc)∧acc=((ds.take i).map fun d=>decide (d.2.2.1.1 < 1)).map V.bl) ⟨ae nM,aa,by rw [zQ];rfl⟩ (fun i acc H' p=>SqT.of (p.1 _ _ (s12 _ _ hpa))) ?_ ?_
   · rintro i z acc H' hi ez ⟨sH,hM,rfl⟩
     refine hide fun q_ e_=> ?_
     obtain ⟨us,ff,wt,b,r,a,ru,rf,rw',ed,rfl,h1,ha,hu,hrf,hrw⟩:=hV (hxs.mono (Kd.of_same (s12.trans sH))) ez
     subst e_
     refine ⟨_,rfl,r,_,2, .ref rw',rfl,rfl,SqT.of h1,rfl,rw',_,0,_,rfl,rfl,SqT.of hrw,rfl,_,_,rfl,rfl,?_⟩
     refine CompN.mk hi (by rw [yW,yW,zm];omega) hM ⟨br nM sH,aa,?_⟩
     rw [be ed,zh,zh]
     rfl
   rintro acc H3 ⟨s3,hM,rfl⟩
   rw [xl,zL] at hM
   refine ⟨M,_,_, .bl true,rfl, .inl hM,oJ,e9,jZ,by unfold Tr.pure;trivial,_,rfl,?_⟩
   rw [lG,uE]
   have e1:((ds.map fun d=>decide (d.2.2.1.1 < 1)).any (· ==true))= !(ds.all fun d=>decide (0 < d.2.2.1.1)):=by
    rw [List.any_map,List.not_all_eq_any_not]
    congr 1
    funext d
    simp only [Function.comp]
    by_cases h:0 < d.2.2.1.1
    · rw [decide_eq_true h,decide_eq_false (by omega)];rfl
    · rw [decide_eq_false h,decide_eq_true (by omega)];rfl
   rw [e1]
   cases q:ds.all fun d=>decide (0 < d.2.2.1.1) with
   |false=>
    refine iteT ?_
    refine nope _ (s12.trans s3) fun gr=> ?_
    have:=gr.1
    unfold okD at this
    rw [q,Bool.and_false] at this
    cases this
   |true=>
    refine iteF ?_
    exact hnx _ _ ⟨q,s3,rfl⟩
 rintro σ3 H3 ⟨wok,s3,rfl⟩
 have s13:=s12.trans s3
 have hL3:=s3 _ _ hL2
 have hA3:=hA2.mono (Kd.of_same s3)
 have hwv3:=hwv.mono (Kd.of_same s3)
 obtain ⟨rb,rfl,hrb⟩:=cH (hbv.mono (Kd.of_same s3))
 clear hL2 hA2 hwv hbv s12 s3
 have al:=hA3.len
 rw [yW] at al
 have ddep:Trs.depth (ds.map pdT)≤40:=by
  have:=cT (n:=11) (ts:=ds.map pdT) fun t m=>by
   obtain ⟨d,md,rfl⟩:=zx.mp m
   exact sR (bn.ok d md)
  omega
 have adep:Trs.depth (as.map prT)≤40:=by
  have:=cT (n:=8) (ts:=as.map prT) fun t m=>by
   obtain ⟨q,mq,rfl⟩:=zx.mp m
   exact (uas.gq q mq).pr.2
  omega
 refine dg (fun σ' H'=>ds≠ []∧(ds.map atT).Nodup∧(∀t,twt t ds=0)∧¬0 < bd.1∧Same H3 H'∧σ'= [some (.ref pa),some (.ref L),some wv,some (.ref rb)]) ?_ fun nx hnx=> ?_
 rotate_left
 · refine ⟨_,rfl,by show 0≤sizeLine;decide,fun p np=> ?_⟩
   have t1:=ae (o:= .tup []) np
   have hp:(upd H3 p (.tup [])) p=some (.tup []):=aa
   generalize upd H3 p (.tup [])=H4 at t1 hp ⊢
   refine ⟨ds.map pdT,[],aU (t1 _ _ (s13 _ _ hpa)) (hxs.mono (Kd.of_same (s13.trans t1))),aU hp .nil, .inr (by simp [Trs.pure]),ddep,_,rfl,?_⟩
   by_cases dz:ds= []
   · refine if_t (by rw [dz];simp [eqTs]) ?_
     refine nope _ (s13.trans t1) fun gr=> ?_
     have:=gr.1
     rw [dz] at this
     cases this
   refine if_f (by
    obtain ⟨d,r,rfl⟩:=List.exists_cons_of_ne_nil dz
    simp [eqTs]) ?_
   refine ⟨_,rfl,L,acc,ds.map atT,rfl,t1 _ _ hL3,hA3.mono (Kd.of_same t1),by rw [yW];omega,fun t m=> ?_,fun D cs us nD hcs nd hmm ul=> ?_⟩
   · obtain ⟨d,md,rfl⟩:=zx.mp m
     exact ⟨(wN (bn.ok d md)).1,(wN (bn.ok d md)).2,_,rfl⟩
   have cl:=hcs.len
   rw [yW] at cl
   have t2:=ae (o:=sT w D cs) nD
   refine ⟨D,cs,rfl,aa,by omega,?_⟩
   have hL5:=t2 _ _ (t1 _ _ hL3)
   have t12:=t1.trans t2
   generalize upd H4 D (sT w D cs)=H5 at t2 t12 hL5 ⊢
   refine ⟨_,rfl,L,acc,rfl, .inl (SqL.of hL5),_,_,rfl,rfl,_,rfl,?_⟩
   have sl:=uU nd hmm
   rw [yW] at sl
   by_cases nod:(ds.map atT).Nodup
   rotate_left
   · refine if_t (decide_eq_true (by have:=sl.mpr nod;omega)) ?_
     exact nope _ (s13.trans t12) fun gr=>nod gr.2.1
   have nlt:¬us.length < ds.length:=fun h=>sl.mp h nod
   refine if_f (decide_eq_false (by omega)) ?_
   refine ⟨_,rfl,by show 0≤sizeLine;decide,fun p2 np2=> ?_⟩
   have t3:=t12.trans (ae (o:= .tup []) np2)
   have hp2:(upd H5 p2 (.tup [])) p2=some (.tup []):=aa
   generalize upd H5 p2 (.tup [])=H6 at t3 hp2 ⊢
   refine ⟨as.map prT,[],hwv3.mono (Kd.of_same t3),aU hp2 .nil, .inr (by simp [Trs.pure]),adep,_,rfl,?_⟩
   by_cases az:as= []
   rotate_left
   · refine if_t (by
      obtain ⟨d,r,rfl⟩:=List.exists_cons_of_ne_nil az
      simp [eqTs]) ?_
     exact nope _ (s13.trans t3) fun gr=>az (zz.mpr gr.2.2.1)
   refine if_f (by rw [az];simp [eqTs]) ?_
   refine ⟨_,rfl,rb,_,0,_,rfl,rfl,SqT.of (t3 _ _ hrb),rfl,_,_,rfl,rfl,_,rfl,?_⟩
   by_cases hp0:0 < bd.1
   · refine if_t (decide_eq_true hp0) ?_
     refine nope _ (s13.trans t3) fun gr=> ?_
     have:tbd ds≤0:=gr.2.2.2.elim (fun h=>by grind) fun h=>by grind
     have:=p1.mpr this
     omega
   · refine if_f (decide_eq_false hp0) ?_
     exact hnx _ _ ⟨dz,nod,zz.mp az,hp0,t3,rfl⟩
 intro σ4 H4 z_
 refine hide fun q_ e_=> ?_
 obtain ⟨dz,nod,tz,hp0,s4,rfl⟩:=z_
 subst e_
 have s14:=s13.trans s4
 have hrb4:=s4 _ _ hrb
 have le0:=p1.mp (by omega)
 have ok1:okD ds=true:=by
  unfold okD
  rw [wok,show ds.isEmpty=false by simpa using dz]
  rfl
 clear hL3 hA3 hwv3 hrb s13 s4
 refine dg (fun σ' H'=>Gr ds∧Same H4 H'∧σ'= [some (.ref pa),some (.ref L),some wv,some (.ref rb)]) ?_ fun nx hnx=> ?_
 rotate_left
 · refine ⟨_,rfl,rb,_,0,_,rfl,rfl,SqT.of hrb4,rfl,rfl,_,rfl,?_⟩
   by_cases b0:bd.1=0
   rotate_left
   · refine if_f (decide_eq_false (fun z=>b0 (V.int.inj z))) ?_
     refine iteF ?_
     refine hnx _ _ ⟨⟨ok1,nod,tz, .inl ?_⟩,Same.refl _,rfl⟩
     have:¬0≤tbd ds:=fun h=>by have:=p2.mpr h;omega
     grind
   refine if_t (decide_eq_true (congrArg V.int b0)) ?_
   have e0:tbd ds=0:=by
    have:=p2.mp (by omega)
    grind
   refine rC (rest:= []) rfl ?_
   refine ⟨_,rfl,pa,rfl,⟨xs,SqT.of (s14 _ _ hpa)⟩,fun M nM=> ?_⟩
   refine dy (xs:=xs) (fun i acc H'=>Same H4 H'∧H' M=some (.lst acc)∧acc=((ds.take i).map fun d=>d.2.2.2).map V.bl) ⟨ae nM,aa,by rw [zQ];rfl⟩ (fun i acc H' p=>SqT.of (p.1 _ _ (s14 _ _ hpa))) ?_ ?_
   · rintro i z acc H' hi ez ⟨sH,hM,rfl⟩
     refine hide fun q_ e_=> ?_
     obtain ⟨us,ff,wt,b,r,a,ru,rf,rw',ed,rfl,h1,ha,hu,hrf,hrw⟩:=hV (hxs.mono (Kd.of_same (s14.trans sH))) ez
     subst e_
     refine ⟨_,rfl,r,_,1, .bl b,rfl,rfl,SqT.of h1,rfl,?_⟩
     refine CompN.mk hi (by rw [yW,yW,zm];omega) hM ⟨br nM sH,aa,?_⟩
     rw [be ed,zh,zh]
     rfl
   rintro acc H5 ⟨s5,hM,rfl⟩
   rw [xl,zL] at hM
   refine ⟨M,_,_, .bl false,rfl, .inl hM,oJ,e9,jZ,by unfold Tr.pure;trivial,_,rfl,?_⟩
   rw [lG,pW]
   have e1:((ds.map fun d=>d.2.2.2).any (· ==false))=ds.any fun d=> !d.2.2.2:=by
    rw [List.any_map]
    congr 1
    funext d
    simp only [Function.comp]
    exact pW _
   rw [e1]
   cases q:ds.any fun d=> !d.2.2.2 with
   |false=>
    refine iteT ?_
    refine nope _ (s14.trans s5) fun gr=> ?_
    rcases gr.2.2.2 with h|h
    · rw [e0] at h
      exact absurd h (by decide)
    · rw [any_false.mpr h.2] at q
      cases q
   |true=>
    refine iteF ?_
    exact hnx _ _ ⟨⟨ok1,nod,tz, .inr ⟨e0,any_false.mp q⟩⟩,s5,rfl⟩
 rintro σ5 H5 ⟨gr,s5,rfl⟩
 have s15:=s14.trans s5
 refine iR ?_
 refine cJ (rest:= []) rfl ?_
 refine ⟨_,rfl,pa,rfl,⟨xs,SqT.of (s15 _ _ hpa)⟩,fun M nM=> ?_⟩
 refine dy (xs:=xs) (fun i acc H'=>Same H5 H'∧H' M=some (.lst acc)∧TrsAt H' acc ((ds.take i).map ltD)) ⟨ae nM,aa,by rw [zQ];exact .nil⟩ (fun i acc H' p=>SqT.of (p.1 _ _ (s15 _ _ hpa))) ?_ ?_
 · rintro i z acc H' hi ez ⟨sH,hM,hA⟩
   refine hide fun q_ e_=> ?_
   obtain ⟨us,ff,wt,b,r,a,ru,rf,rw',ed,rfl,h1,ha,hu,hrf,hrw⟩:=hV (hxs.mono (Kd.of_same (s15.trans sH))) ez
   subst e_
   have al:=hA.len
   rw [yW,zm] at al
   refine ⟨_,rfl,r,_,0, .ref a,rfl,rfl,SqT.of h1,rfl,_,rfl,r,_,1, .bl b,rfl,rfl,SqT.of h1,rfl,b,rfl,by show 2≤sizeLine;decide,fun p np=> ?_⟩
   have sp:=ae (o:= .tup [.ref a, .bl (!b)]) np
   have hMp:=sp _ _ hM
   have kd:=(Kd.of_same sp).trans (Kd.upd (ys:=acc++ [.ref p]) hMp)
   have nMp:p≠M:=fun z=>by rw [z,hM] at np;cases np
   refine CompN.mk hi (by omega) hMp ⟨br nM (sH.trans sp),aa,?_⟩
   rw [be ed,zh]
   exact TrsAt.app (.cons (cN ((aG nMp).trans aa) ((mH (wt:=wt) (b:=b) ha hu hrf).mono kd) e9) .nil) (hA.mono kd)
 rintro acc H6 ⟨s6,hM,hA⟩
 rw [xl,zL] at hA
 refine ⟨M,acc,lits ds,rfl,hM,hA,by unfold lits;rw [yW];omega,fun t m=> ?_,fun v H7 qs s7 ro hv=>kQ gr v H7 qs (s15.trans (s6.trans s7)) ro hv⟩
 obtain ⟨d,md,rfl⟩:=zx.mp m
 have:=tM (bn.ok d md)
 exact ⟨this.1,by omega⟩
end
end K25
namespace EqD
open PySem PySem.Spec PyProof.Rows SeqAt
open PySem PySem.Spec PyProof.Rows SeqAt L2
open PySem PySem.Spec PyProof.Rows SeqAt L2
end EqD
namespace L2
open PySem PySem.Spec PyProof.Rows
end L2
namespace L2
open PySem Tre
section
variable {X:Cx}
theorem kZ {H:Hp} {p:Addr} {o:HO} (h:H p=none):Same H (upd H p o):=fun b u e=>by
 rw [aG (aQ e h)]
 exact e
theorem Same.none {H H':Hp} {p:Addr} (s:Same H H') (h:H' p=none):H p=none:=by
 cases e:H p with
 |none=>rfl
 |some o=>rw [s p o e] at h;cases h
end
end L2
namespace EqD
open PySem PySem.Spec PyProof.Rows SeqAt L2
section
variable {prog:Program} {w:World} {A:Around} {E:Value→Shared→Prop} {s:Shared}
theorem vZ {a b:Addr} {ws:List Value} {Q:Value→Shared→Prop} (ha:IsTup s.heap a ([]:List Value).toArray) (hb:IsTup s.heap b ws.toArray) (k:Q (.ref b) s):wpAny (model prog w) A (binaryOp .Add (.ref a) (.ref b)) Q E s:=by
 obtain ⟨⟨c1,d1,t1,l1⟩,g1,e1,m1,f1⟩:=ha
 obtain ⟨⟨c2,d2,t2,l2⟩,g2,e2,m2,f2⟩:=hb
 dsimp only at e1 f1 e2 f2
 subst e1 f1 e2 f2
 exact concat_meets ⟨_,g1,rfl⟩ ⟨_,g2,rfl⟩ noFill_tuple_add seq_tuple_add PySem.F.slot_tuple_add PySem.F.entry_tuple_add (PySem.F.args_tuple_add_2 _ _) (tuple_addW0 a b _ ws.toArray m1 m2 d1 d2 l1 l2 rfl) ⟨g1,g2,k⟩
end
section
variable {X:Cx}
def sG:R2:=fun x y H Q=>∃a b xs ys,x= .ref a∧y= .ref b∧H a=some (.tup xs)∧H b=some (.tup ys)∧xs.length+ys.length≤sizeLine∧∀r H',Same H H'→H' r=some (.tup (xs++ys))→Q (.ref r) H'
theorem cB:OpR X (binaryOp .Add) sG:=by
 intro pins s σ H x y v u Q I rx ry h
 obtain ⟨a,b,xs,ys,rfl,rfl,ha,hb,hz,q⟩:=h
 by_cases z:xs= []
 · subst z
   cases rx
   cases ry
   obtain ⟨us,r1,p1,_⟩:=I.tuple (SqT.of ha)
   obtain ⟨ws,r2,p2,_⟩:=I.tuple (SqT.of hb)
   cases r1
   exact vZ p1 p2 ⟨.ref b,H,I,rfl,q b H (Same.refl H) hb⟩
 · refine vj pins s σ H _ _ v u Q I rx ry ⟨a,b,xs,ys,rfl,rfl,SqT.of ha,SqT.of hb,z,hz,fun e=> ?_,fun e p np=> ?_⟩
   · subst e
     exact q a H (Same.refl H) (by rw [A0];exact ha)
   · exact q p _ (kZ np) aa
end
end EqD
namespace EqD
open PySem L2
section
variable {X:Cx}
end
end EqD
namespace K25
open PySem L2 Mth Tre Wd Dj Su EqD
noncomputable abbrev sSpo:Stmt:=top 80
noncomputable abbrev sGrP:Stmt:=top 81
theorem uu {xs:List V} {n:Nat} (h:n≤xs.length):cutV xs none (some (n:Int))=xs.take n:=by
 unfold cutV
 rw [HT.sIx_nat,HT.sIx_none,Nat.min_eq_left h]
 simp
theorem nu {xs:List V} {n:Nat} (h:n < xs.length):cutV xs (some ((n:Int)+1)) none=xs.drop (n+1):=by
 unfold cutV
 rw [show ((n:Int)+1)=((n+1:Nat):Int) by omega,HT.sIx_nat,HT.sIx_none,Nat.min_eq_left (by omega),List.take_of_length_le (by rw [zI];omega)]
theorem jy {te:TE} {σ:L2.St} {H:Hp} {Q:VK} {pa:Addr} {xs:List V} {n:Nat} (h1:σ[1]?=some (some (.ref pa))) (h3:σ[3]?=some (some (.int (n:Int)))) (hpa:H pa=some (.tup xs)) (hn:n < xs.length) (hl:xs.length≤1000)
 (h:∀H5,Same H H5→∀R:VK,(∀p H6,Same H5 H6→(∀r4 H9,Same H6 H9→H9 r4=some (.tup (xs.take n++ [.ref p]++xs.drop (n+1)))→Q (.ref r4) H9)→R (.ref p) H6)→te σ H5 R):
 tOp sG (tOp sG (tSl SlW.rSlA (tVar 1) iT (oV (tVar 3))) (tTup (cO te tNil))) (tSl SlW.rSlA (tVar 1) (oV (tOp (rI0 fun i j=> .int (i+j)) (tVar 3) (tC (.int 1)))) iT) σ H Q:=by
 have hL20:(20000:Nat)≤sizeLine:=by decide +kernel
 refine ⟨_,h1,_,h3,_,rfl,pa,xs,rfl,hpa,fun r1 H5 t5 h5=> ?_⟩
 rw [uu (by omega)] at h5
 refine h H5 t5 _ fun p H6 t6 k=> ?_
 refine ⟨by show 1≤sizeLine;decide,fun q nq=> ?_⟩
 have t7:=ae (o:= .tup [.ref p]) nq
 refine ⟨r1,q,_,_,rfl,rfl,t7 _ _ (t6 _ _ h5),aa,by rw [zm];show _+1≤_;omega,fun r2 H8 t8 h8=> ?_⟩
 have t58:=t6.trans (t7.trans t8)
 refine ⟨_,h1,_,h3,_,_,rfl,rfl,_,rfl,pa,xs,rfl,t58 _ _ (t5 _ _ hpa),fun r3 H9 t9 h9=> ?_⟩
 rw [nu hn] at h9
 exact ⟨r2,r3,_,_,rfl,rfl,t9 _ _ h8,h9,by rw [z9,zm,zI];show _+1+_≤_;omega,fun r4 HA tA hA=>k r4 HA (t7.trans (t8.trans (t9.trans tA))) hA⟩
theorem qu {H:Hp} {q0 q1 q2 q3:Addr} {r:Int} (h0:0≤r) (h5:r < 4) (a0:H q0=some (.tup [.int 1, .int 1])) (a1:H q1=some (.tup [.int (-1), .int 1])) (a2:H q2=some (.tup [.int 1, .int 3])) (a3:H q3=some (.tup [.int (-4), .int 1])):
 ∃(v:Addr) (p:Fr),atI [V.ref q0, .ref q1, .ref q2, .ref q3] r=some (.ref v)∧H v=some (.tup [.int p.1, .int p.2])∧Gf 3 p∧Sh p:=by
 have:r=0∨r=1∨r=2∨r=3:=by omega
 rcases this with rfl|rfl|rfl|rfl
 · exact ⟨q0,(1,1),rfl,a0,⟨by decide,by unfold Lt2;decide,by unfold Lt2;decide⟩,⟨by decide,by decide⟩⟩
 · exact ⟨q1,(-1,1),rfl,a1,⟨by decide,by unfold Lt2;decide,by unfold Lt2;decide⟩,⟨by decide,by decide⟩⟩
 · exact ⟨q2,(1,3),rfl,a2,⟨by decide,by unfold Lt2;decide,by unfold Lt2;decide⟩,⟨by decide,by decide⟩⟩
 · exact ⟨q3,(-4,1),rfl,a3,⟨by decide,by unfold Lt2;decide,by unfold Lt2;decide⟩,⟨by decide,by decide⟩⟩
section
variable {P:Program} {w:World} {K:PySem.W.Frag} {mg:Str→Option Value} {base:Heap}
def rO:Sp:=fun vs H Q _=>∃(tp c nl:Addr) (k:Nat) (v:V) (ds:List Pd) (m s n e g ew:Nat),vs= [.ref tp,v, .ref nl]∧TapeAt H tp c k∧k+30≤1000000∧Names H nl∧nl≠tp∧TrAt H v (.tup (ds.map pdT))∧ds≠ []∧Pk m s n e g ew ds∧m≤20∧1≤s∧s≤40∧e≤600∧g≤900∧ew≤900∧
 ∀(v':V) (ds':List Pd) (H':Hp),TapeAt H' tp c (k+30)→But tp H H'→TrAt H' v' (.tup (ds'.map pdT))→Pk (m+1) (s+1) (n+s) (e+3) (g+4) (ew+3) ds'→Q v' H'
theorem scSo:aD ["_law_tape_here","_law_parts_here","_law_names_here","_law_at","_law_atom","_law_truth","_law_weight","_law_way","_law_more"] ["_law_tape_here","_law_parts_here","_law_names_here"] (ah sSpo):=⟨rfl,rfl,rfl,by decide +kernel,rfl,by decide +kernel,by decide +kernel⟩
theorem xx {f fD fM fP fA fE:Addr} {fd dD dM dP dA dE:FuncData} (F:Fun K "_law_spoiled" "_law_spoiled" sSpo f fd) (B:Blt mg)
 (gD:FnOk P w K mg base CX0 1 fD dD ["_law_tape_here","_law_many"] eD) (kD:PySem.W.keepIn K (.ref fD)=true) (bD:Binds K dD ["_law_tape_here","_law_many"] []) (mD:mg "_law_draw"=some (.ref fD))
 (gM:FnOk P w K mg base CX0 2 fM dM ["one","other"] (de K)) (kM:PySem.W.keepIn K (.ref fM)=true) (bM:Binds K dM ["one","other"] []) (mM:mg "times"=some (.ref fM))
 (gP:FnOk P w K mg base CX0 2 fP dP ["one","other"] (eZ K)) (kP:PySem.W.keepIn K (.ref fP)=true) (bP:Binds K dP ["one","other"] []) (mP:mg "plus"=some (.ref fP))
 (gA:FnOk P w K mg base CX0 4 fA dA ["one","other"] iV) (kA:PySem.W.keepIn K (.ref fA)=true) (bA:Binds K dA ["one","other"] []) (mA:mg "sum_plus"=some (.ref fA))
 (gE:FnOk P w K mg base CX0 3 fE dE ["_law_tape_here","_law_names_here","_law_deep"] (j9 2)) (kE:PySem.W.keepIn K (.ref fE)=true) (bE:Binds K dE ["_law_tape_here","_law_names_here","_law_deep"] []) (mE:mg "_law_term"=some (.ref fE)):FnOk P w K mg base CX0 5 f fd ["_law_tape_here","_law_parts_here","_law_names_here"] rO:=by
 refine F.ok scSo (fun vs H Q E h=> ?_) (fun cdv A outer s H vs Q E hr h=> ?_)
 · refine hide fun q_ e_=> ?_
   obtain ⟨tp,c,nl,k,v,ds,_,_,_,_,_,_,rfl,_⟩:=h
   subst e_
   rfl
 refine hide fun q_ e_=> ?_
 obtain ⟨tp,c,nl,kk,v,ds,m,s_,n,e,g,ew,rfl,hT,hn,hN,nt,hv,dz,pk,m20,s1,s40,e6,g9,w9,k⟩:=h
 subst e_
 have hr1:Room 1 _:=hr.mono (by decide)
 have hr2:Room 2 _:=hr.mono (by decide)
 have hr3:Room 3 _:=hr.mono (by decide)
 have hr4:Room 4 _:=hr.mono (by decide)
 refine ⟨_,(af (aJ (i:=3) scSo.nd rfl (Or.inl rfl) (ai gD hr1 rfl mD kD bD .nil ak (a8 (pv 0) (a8 (ar bp rfl B.le PySem.boot_len (a8 (pv 1) a9)) a9))))
  (af (fk (aw aq (pv 1) (pv 3) fun _ _=>rfl) (cw rfl (aI (ax (i:=4) scSo.nd rfl (Or.inl rfl)) (aI (ax (i:=5) scSo.nd rfl (Or.inl rfl)) (aI (ax (i:=6) scSo.nd rfl (Or.inl rfl)) ci)))))
  (af (aJ (i:=7) scSo.nd rfl (Or.inl rfl) (ai gD hr1 rfl mD kD bD .nil ak (a8 (pv 0) (a8 ac a9))))
  (af (aP (aE bY (pv 7) ac (aA _)) (aj (am (aH cB (aH cB (bu SlW.sl_A (pv 1) cg (cf (pv 3))) (aB (a8 (aB (a8 (pv 4) (a8 (iE (pv 5)) (a8 (pv 6) a9)))) a9))) (bu SlW.sl_A (pv 1) (cf (aH bK (pv 3) ac)) cg)))) au)
  (af (aP (aE bY (pv 7) ac (aA _)) (aj (am (aH cB (aH cB (bu SlW.sl_A (pv 1) cg (cf (pv 3))) (aB (a8 (aB (a8 (pv 4) (a8 (iE (pv 5)) (a8 (ai gM hr2 rfl mM kM bM .nil ak (a8 (pv 6) (a8 (aB (a8 (cW cq ac) (a8 ac a9))) a9))) a9)))) a9))) (bu SlW.sl_A (pv 1) (cf (aH bK (pv 3) ac)) cg)))) au)
  (af (aP (PW.pt (jd (aE bY (pv 7) ac (aA _)) (hJ (aE gh (aw aq (pv 6) ac fun _ _=>rfl) ac (aA _))))) (af (aJ (i:=6) scSo.nd rfl (Or.inl rfl) (ai gP hr2 rfl mP kP bP .nil ak (a8 (pv 6) (a8 (aB (a8 ac (a8 (aH bK ac (ai gD hr1 rfl mD kD bD .nil ak (a8 (pv 0) (a8 ac a9)))) a9))) a9))))
  (aj (am (aH cB (aH cB (bu SlW.sl_A (pv 1) cg (cf (pv 3))) (aB (a8 (aB (a8 (pv 4) (a8 (pv 5) (a8 (pv 6) a9)))) a9))) (bu SlW.sl_A (pv 1) (cf (aH bK (pv 3) ac)) cg))))) au)
  (af (aP (aE bY (pv 7) ac (aA _)) (af (aJ (i:=8) scSo.nd rfl (Or.inl rfl) (aw bV (cG (a8 (aB (a8 ac (a8 ac a9))) (a8 (aB (a8 (cW cq ac) (a8 ac a9))) (a8 (aB (a8 ac (a8 ac a9))) (a8 (aB (a8 (cW cq ac) (a8 ac a9))) a9))))) (ai gD hr1 rfl mD kD bD .nil ak (a8 (pv 0) (a8 ac a9))) fun _ _=>rfl))
  (af (aJ (i:=4) scSo.nd rfl (Or.inl rfl) (aB (a8 aY (a8 (aw aq (pv 4) ac fun _ _=>rfl) (a8 (ai gP hr2 rfl mP kP bP .nil ak (a8 (aw aq (pv 4) ac fun _ _=>rfl) (a8 (pv 8) a9))) a9)))))
  (aj (am (aH cB (aH cB (bu SlW.sl_A (pv 1) cg (cf (pv 3))) (aB (a8 (aB (a8 (pv 4) (a8 (pv 5) (a8 (pv 6) a9)))) a9))) (bu SlW.sl_A (pv 1) (cf (aH bK (pv 3) ac)) cg)))))) au)
  (af (aP (aE bY (pv 7) ac (aA _)) (af (aJ (i:=4) scSo.nd rfl (Or.inl rfl) (aB (a8 aY (a8 (ai gA hr4 rfl mA kA bA .nil ak (a8 (aw aq (pv 4) ac fun _ _=>rfl) (a8 (aB (a8 (aB (a8 (ai gE hr3 rfl mE kE bE .nil ak (a8 (pv 0) (a8 (pv 2) (a8 ac a9)))) (a8 (aB (a8 ac (a8 ac a9))) a9))) a9)) a9))) (a8 (aw aq (pv 4) ac fun _ _=>rfl) a9)))))
  (aj (am (aH cB (aH cB (bu SlW.sl_A (pv 1) cg (cf (pv 3))) (aB (a8 (aB (a8 (pv 4) (a8 (pv 5) (a8 (pv 6) a9)))) a9))) (bu SlW.sl_A (pv 1) (cf (aH bK (pv 3) ac)) cg))))) au)
  (af (aP (aE bY (pv 7) ac (aA _)) (aj (am (aH cB (pv 1) (aB (a8 (aw aq (pv 1) (pv 3) fun _ _=>rfl) a9))))) au)
  (aj (am (aH cB (bu SlW.sl_A (pv 1) cg (cf (pv 3))) (bu SlW.sl_A (pv 1) (cf (aH bK (pv 3) ac)) cg))))))))))))),?_⟩
 have hL20:(20000:Nat)≤sizeLine:=by decide +kernel
 refine hide fun q_ e_=> ?_
 obtain ⟨pa,xs,rfl,hpa,hxs⟩:=at_t hv
 subst e_
 have xl:=hxs.len
 rw [yW] at xl
 have dpos:0 < ds.length:=List.length_pos_iff.mpr dz
 have dm:=pk.len
 refine ⟨_,rfl,_,rfl,pa,xs,rfl, .inr (SqT.of hpa),tp,c,(xs.length:Int),kk,rfl,hT,by omega,by omega,cz (by omega) (by omega),fun at_ H0 a0 a1 hT0 kp0=> ?_⟩
 obtain ⟨n',rfl⟩:∃n':Nat,at_=(n':Int):=⟨at_.toNat,by omega⟩
 have b0:But tp H H0:=But.of_keep kp0
 have hxs0:=hxs.mono (b0.kd hT hT0)
 have npt:pa≠tp:=fun z=>by
  obtain ⟨ys,hys⟩:=hT.lst
  rw [z,hys] at hpa
  cases hpa
 have hpa0:=b0 _ _ npt hpa
 have nlt:n' < xs.length:=by omega
 refine hide fun q_ e_=> ?_
 obtain ⟨us,ff,wt,b,r,a,ru,rf,rw',ed,ez,h1,ha,hu,hrf,hrw⟩:=hV hxs0 (yX nlt)
 subst e_
 have ho:PtOk s_ e g ew us ff wt:=pk.ok _ (z7 ed)
 refine aR ?_
 refine ⟨_,rfl,_,rfl,pa,xs,(n':Int), .ref r,rfl,rfl,SqT.of hpa0,fe (by rw [yX nlt,ez]),r,_,rfl,SqT.of h1,rfl,_,_,rfl,_,_,rfl,_,_,rfl,rfl,?_⟩
 refine ⟨_,rfl,tp,c,7,kk+1,rfl,hT0,by omega,by decide,cz (by decide) (by decide),fun wy H1 w0 w7 hT1 kp1=> ?_⟩
 have b01:But tp H0 H1:=But.of_keep kp1
 have b1:=b0.trans b01
 have kd1:=b01.kd hT0 hT1
 have hpa1:=kd1.tup _ _ hpa0
 have ha1:=kd1.tup _ _ ha
 have h11:=kd1.tup _ _ h1
 have hrf1:=kd1.tup _ _ hrf
 have hrw1:=kd1.tup _ _ hrw
 have hu1:=hu.mono kd1
 have hat1:=mH (wt:=wt) (b:=b) ha1 hu1 hrf1
 clear hpa0 ha h1 hrf hrw hu kd1 hxs0 hT0 kp0 kp1 b0 b01
 have fin:∀(HA:Hp) (r4 p:Addr) (d':Pd) (k':Nat),k'≤kk+30→TapeAt HA tp c k'→But tp H HA→HA r4=some (.tup (xs.take n'++ [.ref p]++xs.drop (n'+1)))→TrAt HA (.ref p) (pdT d')→PdOk (s_+1) (e+3) (g+4) (ew+3) d'→d'.1.length≤us.length+1→Q (.ref r4) HA:=by
  intro HA r4 p d' k' hk hTA bA hA hp hok hlen
  have hxA:=hxs.mono (bA.kd hT hTA)
  have ed2:(ds.map pdT).take n'++ [pdT d']++(ds.map pdT).drop (n'+1)=(ds.take n'++ [d']++ds.drop (n'+1)).map pdT:=by
   rw [zh,zh,List.map_take,List.map_drop]
   rfl
  refine k (.ref r4) (ds.take n'++ [d']++ds.drop (n'+1)) HA (hTA.mono hk) bA (aU hA ?_) ⟨?_,?_,fun d md=> ?_⟩
  · rw [←ed2]
    exact TrsAt.app (gJ _ hxA) (TrsAt.app (.cons hp .nil) (gH _ hxA))
  · rw [z9,z9,zm,zI]
    show _+1+_≤_
    omega
  · have q1:=cC (ds.take n'++ [(us,ff,wt,b)]) (ds.drop (n'+1))
    rw [←be ed,A1,be ed,cC] at q1
    have q2:nps [(us,ff,wt,b)]=us.length:=by simp [nps]
    have q3:nps [d']=d'.1.length:=by simp [nps]
    have:=pk.nn
    rw [cC,cC,q3]
    omega
  · rcases zf.mp md with md|md
    · rcases zf.mp md with md|md
      · exact (pk.ok d (List.mem_of_mem_take md)).mono (by omega) (by omega) (by omega) (by omega)
      · rw [ze.mp md]
        exact hok
    · exact (pk.ok d (List.mem_of_mem_drop md)).mono (by omega) (by omega) (by omega) (by omega)
 have hn1000:xs.length≤1000:=by omega
 refine aR ?_
 refine ⟨_,rfl,rfl,_,rfl,?_⟩
 by_cases h0:wy=0
 · refine if_t (decide_eq_true (congrArg V.int h0)) ?_
   refine fw ?_
   refine jy rfl rfl hpa1 nlt hn1000 fun H5 t5 R hR=> ?_
   refine ⟨_,rfl,_,rfl,b,rfl,_,rfl,by show 3≤sizeLine;decide,fun p np=> ?_⟩
   have t6:=ae (o:= .tup [.ref a, .bl (!b), .ref rw']) np
   refine hR p _ t6 fun r4 H9 t9 h9=> ?_
   have t19:=t5.trans (t6.trans t9)
   exact fin H9 r4 p (us,ff,wt,!b) (kk+2) (by omega) (hT1.same t19) (b1.trans (But.of_same t19)) h9 (aU (t9 _ _ aa) (.cons (hat1.mono (Kd.of_same t19)) (.cons e9 (.cons (aK (t19 _ _ hrw1)) .nil)))) (ho.mono (by omega) (by omega) (by omega) (by omega)) (by show us.length≤_;omega)
 refine if_f (decide_eq_false (fun z=>h0 (V.int.inj z))) ?_
 refine ⟨_,rfl,rfl,_,rfl,?_⟩
 by_cases h6:wy=6
 · refine if_t (decide_eq_true (congrArg V.int h6)) ?_
   refine fw ?_
   refine jy rfl rfl hpa1 nlt hn1000 fun H5 t5 R hR=> ?_
   refine ⟨_,rfl,_,rfl,b,rfl,_,rfl,_,rfl,by show 2≤sizeLine;decide,fun p0 np0=> ?_⟩
   have t6:=ae (o:= .tup [.int (-1), .int 1]) np0
   refine ⟨rw',p0,_,_,_,_,rfl,SqT.of (t6 _ _ (t5 _ _ hrw1)),SqT.of aa,⟨ho.gw.pos,by decide,ho.gw.b1 (by omega),ho.gw.b2 (by omega),gf_m1.b1 (by decide),gf_m1.b2 (by decide)⟩,fun r7 H7 _ t7 h7=> ?_⟩
   refine ⟨by show 3≤sizeLine;decide,fun p np=> ?_⟩
   have t8:=ae (o:= .tup [.ref a, .bl (!b), .ref r7]) np
   refine hR p _ (t6.trans (t7.trans t8)) fun r4 H9 t9 h9=> ?_
   have t19:=t5.trans (t6.trans (t7.trans (t8.trans t9)))
   exact fin H9 r4 p (us,ff,bq wt m1,!b) (kk+2) (by omega) (hT1.same t19) (b1.trans (But.of_same t19)) h9 (aU (t9 _ _ aa) (.cons (hat1.mono (Kd.of_same t19)) (.cons e9 (.cons (aK (t9 _ _ (t8 _ _ h7))) .nil)))) ⟨ho.us.mono (by omega) (by omega),ho.gf.mono (by omega),ho.sf,(ho.gw.times gf_m1).mono (by omega),cy ho.sw oZ⟩ (by show us.length≤_;omega)
 refine if_f (decide_eq_false (fun z=>h6 (V.int.inj z))) ?_
 refine kj ?_
 dsimp only
 refine dg (fun σ' H'=>H'=H1∧σ'= [some (.ref tp),some (.ref pa),some (.ref nl),some (.int (n':Int)),some (.ref a),some (.bl b),some (.ref rw'),some (.int wy),none]) ?_ fun nx hnx=> ?_
 rotate_left
 · refine ⟨_,rfl,rfl,_,rfl,?_⟩
   by_cases h1:wy=1
   rotate_left
   · refine if_f (decide_eq_false (fun z=>h1 (V.int.inj z))) ?_
     refine iteF ?_
     exact hnx _ _ ⟨rfl,rfl⟩
   refine if_t (decide_eq_true (congrArg V.int h1)) ?_
   refine ⟨_,rfl,rw',_,0,_,rfl,rfl,SqT.of hrw1,rfl,_,_,rfl,rfl,_,rfl,?_⟩
   by_cases hp:0 < wt.1
   rotate_left
   · refine if_f (decide_eq_false hp) ?_
     exact hnx _ _ ⟨rfl,rfl⟩
   refine if_t (decide_eq_true hp) ?_
   refine ⟨_,rfl,_,rfl,tp,c,3,kk+2,rfl,hT1,by omega,by decide,cz (by decide) (by decide),fun r3 H3 r30 r33 hT3 kp3=> ?_⟩
   have b13:But tp H1 H3:=But.of_keep kp3
   have kd3:=b13.kd hT1 hT3
   refine ⟨_,_,rfl,rfl,by show 2≤sizeLine;decide,fun p0 np0=> ?_⟩
   have t4:=ae (o:= .tup [.int 1, .int (1+r3)]) np0
   have hw3:=kd3.tup _ _ hrw1
   have gq:Gf 2 (1,1+r3):=⟨by show 0 < 1+r3;omega,by show (1:Nat) < 2^2;decide,by show (1+r3).natAbs < 4;omega⟩
   have sq:Sh (1,1+r3):=⟨by show 0 < 1+r3;omega,by show Int.gcd 1 (1+r3)=1;exact Int.one_gcd⟩
   refine ⟨rw',p0,wt.1,wt.2,1,1+r3,rfl,SqT.of (t4 _ _ hw3),SqT.of aa,⟨ho.gw.pos,gq.pos,ho.gw.b1 (by omega),ho.gw.b2 (by omega),gq.b1 (by decide),gq.b2 (by decide)⟩,fun r5 H5 _ t5 h5=> ?_⟩
   have t35:=t4.trans t5
   have hT5:=hT3.same t35
   have b15:=b1.trans (b13.trans (But.of_same t35))
   have hpa5:=t35 _ _ (kd3.tup _ _ hpa1)
   have hat5:=hat1.mono (kd3.trans (Kd.of_same t35))
   refine aR ?_
   try dsimp only
   refine fw ?_
   refine jy rfl rfl hpa5 nlt hn1000 fun H6 t6 R hR=> ?_
   refine ⟨_,rfl,_,rfl,_,rfl,by show 3≤sizeLine;decide,fun p np=> ?_⟩
   have t7:=ae (o:= .tup [.ref a, .bl b, .ref r5]) np
   refine hR p _ t7 fun r4 H9 t9 h9=> ?_
   have t69:=t6.trans (t7.trans t9)
   exact fin H9 r4 p (us,ff,cK wt (1,1+r3),b) (kk+3) (by omega) (hT5.same t69) (b15.trans (But.of_same t69)) h9 (aU (t9 _ _ aa) (.cons (hat5.mono (Kd.of_same t69)) (.cons e9 (.cons (aK (t69 _ _ h5)) .nil)))) ⟨ho.us.mono (by omega) (by omega),ho.gf.mono (by omega),ho.sf,(ho.gw.plus gq).mono (by omega),df ho.sw sq⟩ (by show us.length≤_;omega)
 rintro σ2 H2 ⟨rfl,rfl⟩
 refine ⟨_,rfl,rfl,_,rfl,?_⟩
 by_cases h2:wy=2
 · refine if_t (decide_eq_true (congrArg V.int h2)) ?_
   refine ⟨by show 2≤sizeLine;decide,fun q0 nq0=> ?_⟩
   have t0:=ae (o:= .tup [.int 1, .int 1]) nq0
   refine ⟨_,rfl,by show 2≤sizeLine;decide,fun q1 nq1=> ?_⟩
   have t1:=ae (o:= .tup [.int (-1), .int 1]) nq1
   refine ⟨by show 2≤sizeLine;decide,fun q2 nq2=> ?_⟩
   have t2:=ae (o:= .tup [.int 1, .int 3]) nq2
   refine ⟨_,rfl,by show 2≤sizeLine;decide,fun q3 nq3=> ?_⟩
   have t3:=ae (o:= .tup [.int (-4), .int 1]) nq3
   refine ⟨by show 4≤sizeLine;decide,fun L nL=> ?_⟩
   have t4:=ae (o:= .lst [.ref q0, .ref q1, .ref q2, .ref q3]) nL
   have a3:=t4 _ _ (aa (o:=HO.tup [.int (-4), .int 1]))
   have a2:=t4 _ _ (t3 _ _ (aa (o:=HO.tup [.int 1, .int 3])))
   have a1:=t4 _ _ (t3 _ _ (t2 _ _ (aa (o:=HO.tup [.int (-1), .int 1]))))
   have a0:=t4 _ _ (t3 _ _ (t2 _ _ (t1 _ _ (aa (o:=HO.tup [.int 1, .int 1])))))
   have tt:=t0.trans (t1.trans (t2.trans (t3.trans t4)))
   have nLt:L≠tp:=fun z=>by
    subst z
    obtain ⟨ys,hys⟩:=hT1.lst
    have h2:=t3 _ _ (t2 _ _ (t1 _ _ (t0 _ _ hys)))
    rw [nL] at h2
    cases h2
   have aL:=aa (H:=upd (upd (upd (upd H2 q0 (.tup [.int 1, .int 1])) q1 (.tup [.int (-1), .int 1])) q2 (.tup [.int 1, .int 3])) q3 (.tup [.int (-4), .int 1])) (a:=L) (o:= .lst [.ref q0, .ref q1, .ref q2, .ref q3])
   generalize upd (upd (upd (upd (upd H2 q0 (.tup [.int 1, .int 1])) q1 (.tup [.int (-1), .int 1])) q2 (.tup [.int 1, .int 3])) q3 (.tup [.int (-4), .int 1])) L (.lst [.ref q0, .ref q1, .ref q2, .ref q3])=HA at a0 a1 a2 a3 tt aL ⊢
   have hTA:=hT1.same tt
   refine ⟨_,rfl,tp,c,4,kk+2,rfl,hTA,by omega,by decide,cz (by decide) (by decide),fun rB HB rB0 rB4 hTB kpB=> ?_⟩
   have bB:But tp HA HB:=But.of_keep kpB
   have kdB:=bB.kd hTA hTB
   refine hide fun q_ e_=> ?_
   obtain ⟨rm,mf,eav,hrm,gmf,smf⟩:=qu rB0 rB4 (kdB.tup _ _ a0) (kdB.tup _ _ a1) (kdB.tup _ _ a2) (kdB.tup _ _ a3)
   subst e_
   refine ⟨L,_,rB,_,rfl,rfl,SqL.of (bB _ _ nLt aL),eav,?_⟩
   have kdAB:=(Kd.of_same tt).trans kdB
   have haB:=kdAB.tup _ _ ha1
   have hrfB:=kdAB.tup _ _ hrf1
   have huB:=hu1.mono kdAB
   have bbB:=b1.trans ((But.of_same tt).trans bB)
   refine aR ?_
   try dsimp only
   refine ⟨_,rfl,a,_,1, .ref ru,rfl,rfl,SqT.of haB,rfl,_,rfl,a,_,2, .ref rf,rfl,rfl,SqT.of haB,rfl,_,rfl,rf,rm,_,_,_,_,rfl,SqT.of hrfB,SqT.of hrm,⟨ho.gf.pos,gmf.pos,ho.gf.b1 (by omega),ho.gf.b2 (by omega),gmf.b1 (by decide),gmf.b2 (by decide)⟩,fun r6 H6 _ t6 h6=> ?_⟩
   refine ⟨by show 3≤sizeLine;decide,fun ap nap=> ?_⟩
   have t7:=ae (o:= .tup [.str (Str.ofString "most"), .ref ru, .ref r6]) nap
   have t67:=t6.trans t7
   have hap:TrAt (upd H6 ap (.tup [.str (Str.ofString "most"), .ref ru, .ref r6])) (.ref ap) (moT us (cK ff mf)):=aU aa (.cons cU (.cons (huB.mono (Kd.of_same t67)) (.cons (aK (t7 _ _ h6)) .nil)))
   generalize upd H6 ap (.tup [.str (Str.ofString "most"), .ref ru, .ref r6])=H7 at t7 t67 hap ⊢
   have kd7:=kdAB.trans (Kd.of_same t67)
   refine aR ?_
   try dsimp only
   refine fw ?_
   refine jy rfl rfl (kd7.tup _ _ hpa1) nlt hn1000 fun H8 t8 R hR=> ?_
   refine ⟨_,rfl,_,rfl,_,rfl,by show 3≤sizeLine;decide,fun p np=> ?_⟩
   have t9:=ae (o:= .tup [.ref ap, .bl b, .ref rw']) np
   refine hR p _ t9 fun r4 HC tC hC=> ?_
   have t7C:=t8.trans (t9.trans tC)
   exact fin HC r4 p (us,cK ff mf,wt,b) (kk+3) (by omega) (hTB.same (t67.trans t7C)) (bbB.trans (But.of_same (t67.trans t7C))) hC (aU (tC _ _ aa) (.cons (hap.mono (Kd.of_same t7C)) (.cons e9 (.cons (aK (t7C _ _ (kd7.tup _ _ hrw1))) .nil)))) ⟨ho.us.mono (by omega) (by omega),(ho.gf.plus gmf).mono (by omega),df ho.sf smf,ho.gw.mono (by omega),ho.sw⟩ (by show us.length≤_;omega)
 refine if_f (decide_eq_false (fun z=>h2 (V.int.inj z))) ?_
 refine ⟨_,rfl,rfl,_,rfl,?_⟩
 by_cases h3:wy=3
 · refine if_t (decide_eq_true (congrArg V.int h3)) ?_
   refine ⟨_,rfl,a,_,1, .ref ru,rfl,rfl,SqT.of ha1,rfl,_,rfl,_,rfl,tp,c,nl,1,kk+2,rfl,hT1,by show kk+2+16≤1000000;omega,hN.but nt b1,nt,by decide,fun v t H3 hT3 b3 hv tyt lnt dt=> ?_⟩
   have kd3:=b3.kd hT1 hT3
   have hT3':TapeAt H3 tp c (kk+2+16):=hT3
   refine ⟨by show 2≤sizeLine;decide,fun q0 nq0=> ?_⟩
   have t0:=ae (o:= .tup [.int 1, .int 1]) nq0
   refine ⟨by show 2≤sizeLine;decide,fun q1 nq1=> ?_⟩
   have t1:=ae (o:= .tup [v, .ref q0]) nq1
   refine ⟨by show 1≤sizeLine;decide,fun q2 nq2=> ?_⟩
   have t2:=ae (o:= .tup [.ref q1]) nq2
   have t02:=t0.trans (t1.trans t2)
   have h2q:TrAt (upd (upd (upd H3 q0 (.tup [.int 1, .int 1])) q1 (.tup [v, .ref q0])) q2 (.tup [.ref q1])) (.ref q2) (.tup ([((t,((1:Int),(1:Int))):Pq)].map prT)):=
    aU aa (.cons (cN (t2 _ _ aa) (hv.mono (Kd.of_same t02)) (aK (t2 _ _ (t1 _ _ aa)))) .nil)
   generalize upd (upd (upd H3 q0 (.tup [.int 1, .int 1])) q1 (.tup [v, .ref q0])) q2 (.tup [.ref q1])=H4 at t02 h2q ⊢
   have kd4:=kd3.trans (Kd.of_same t02)
   have g11:Gq 1 (t,((1:Int),(1:Int))):=⟨tyt,by show t.depth≤7;omega,⟨by show (0:Int) < 1;decide,by show (1:Nat) < 2^1;decide,by show (1:Nat) < 2^1;decide⟩,⟨by show (0:Int) < 1;decide,by show Int.gcd 1 1=1;decide⟩⟩
   have usl:=ho.us.len
   refine ⟨_,_,us,[(t,((1:Int),(1:Int)))],e,1,rfl,hu1.mono kd4,h2q,by show us.length+1 < 64;omega,by omega,ho.us.asc,List.pairwise_singleton _ _,ho.us.gq,fun p m=>by rw [ze.mp m];exact g11,fun y H5 vs s5 hy hcan hle hg=> ?_⟩
   have hle':vs.length≤us.length+1:=hle
   have uvs:Us (s_+1) (e+3) vs:=Us.can hcan (by omega) (fun p m=>(hg p m).mono (by omega)) fun p m=>by
    rcases zf.mp m with m|m
    · exact ho.us.ln p m
    · rw [ze.mp m]
      exact ⟨lnt,by show t.depth≤3;omega⟩
   have kd5:=kd4.trans (Kd.of_same s5)
   have ha5:=kd5.tup _ _ ha1
   refine ⟨_,rfl,a,_,2, .ref rf,rfl,rfl,SqT.of ha5,rfl,by show 3≤sizeLine;decide,fun ap nap=> ?_⟩
   have t7:=ae (o:= .tup [.str (Str.ofString "most"),y, .ref rf]) nap
   have hap:TrAt (upd H5 ap (.tup [.str (Str.ofString "most"),y, .ref rf])) (.ref ap) (moT vs ff):=aU aa (.cons cU (.cons (hy.mono (Kd.of_same t7)) (.cons (aK (t7 _ _ (kd5.tup _ _ hrf1))) .nil)))
   generalize upd H5 ap (.tup [.str (Str.ofString "most"),y, .ref rf])=H7 at t7 hap ⊢
   have t37:=t02.trans (s5.trans t7)
   have kd7:=kd5.trans (Kd.of_same t7)
   refine aR ?_
   try dsimp only
   refine fw ?_
   refine jy rfl rfl (kd7.tup _ _ hpa1) nlt hn1000 fun H8 t8 R hR=> ?_
   refine ⟨_,rfl,_,rfl,_,rfl,by show 3≤sizeLine;decide,fun p np=> ?_⟩
   have t9:=ae (o:= .tup [.ref ap, .bl b, .ref rw']) np
   refine hR p _ t9 fun r4 HC tC hC=> ?_
   have t7C:=t8.trans (t9.trans tC)
   exact fin HC r4 p (vs,ff,wt,b) (kk+2+16) (by omega) (hT3'.same (t37.trans t7C)) (b1.trans (b3.trans (But.of_same (t37.trans t7C)))) hC (aU (tC _ _ aa) (.cons (hap.mono (Kd.of_same t7C)) (.cons e9 (.cons (aK (t7C _ _ (kd7.tup _ _ hrw1))) .nil)))) ⟨uvs,ho.gf.mono (by omega),ho.sf,ho.gw.mono (by omega),ho.sw⟩ hle'
 refine if_f (decide_eq_false (fun z=>h3 (V.int.inj z))) ?_
 refine ⟨_,rfl,rfl,_,rfl,?_⟩
 have hx2:=hxs.mono (b1.kd hT hT1)
 by_cases h4:wy=4
 · refine if_t (decide_eq_true (congrArg V.int h4)) ?_
   refine ⟨_,rfl,_,rfl,_,rfl,pa,xs,(n':Int), .ref r,rfl,rfl,SqT.of hpa1,fe (by rw [yX nlt,ez]),by show 1≤sizeLine;decide,fun q nq=> ?_⟩
   have t3:=ae (o:= .tup [.ref r]) nq
   refine ⟨pa,q,xs,_,rfl,rfl,t3 _ _ hpa1,aa,by show _+1≤_;omega,fun r4 H4 t4 h4=> ?_⟩
   have t34:=t3.trans t4
   have ed2:ds.map pdT++ [pdT (us,ff,wt,b)]=(ds++ [(us,ff,wt,b)]).map pdT:=by
    rw [zh]
    rfl
   refine k (.ref r4) (ds++ [(us,ff,wt,b)]) H4 ((hT1.same t34).mono (by omega)) (b1.trans (But.of_same t34)) (aU h4 ?_) ⟨?_,?_,fun d md=> ?_⟩
   · rw [←ed2]
     exact TrsAt.app (.cons (aU (t34 _ _ h11) (.cons (hat1.mono (Kd.of_same t34)) (.cons e9 (.cons (aK (t34 _ _ hrw1)) .nil)))) .nil) (hx2.mono (Kd.of_same t34))
   · rw [z9]
     show _+1≤_
     omega
   · have q2:nps [(us,ff,wt,b)]=us.length:=by simp [nps]
     have:=pk.nn
     have:=ho.us.len
     rw [cC,q2]
     omega
   · rcases zf.mp md with md|md
     · exact (pk.ok d md).mono (by omega) (by omega) (by omega) (by omega)
     · rw [ze.mp md]
       exact ho.mono (by omega) (by omega) (by omega) (by omega)
 refine if_f (decide_eq_false (fun z=>h4 (V.int.inj z))) ?_
 refine ⟨_,rfl,_,rfl,_,rfl,pa,xs,rfl,hpa1,fun r1 H5 t5 h5=> ?_⟩
 rw [uu (by omega)] at h5
 refine ⟨_,rfl,_,rfl,_,_,rfl,rfl,_,rfl,pa,xs,rfl,t5 _ _ hpa1,fun r3 H6 t6 h6=> ?_⟩
 rw [nu nlt] at h6
 refine ⟨r1,r3,_,_,rfl,rfl,t6 _ _ h5,h6,by rw [zm,zI];omega,fun r4 H7 t7 h7=> ?_⟩
 have t17:=t5.trans (t6.trans t7)
 have ed2:(ds.map pdT).take n'++(ds.map pdT).drop (n'+1)=(ds.take n'++ds.drop (n'+1)).map pdT:=by rw [zh,List.map_take,List.map_drop]
 have hx7:=hx2.mono (Kd.of_same t17)
 refine k (.ref r4) (ds.take n'++ds.drop (n'+1)) H7 ((hT1.same t17).mono (by omega)) (b1.trans (But.of_same t17)) (aU h7 ?_) ⟨?_,?_,fun d md=> ?_⟩
 · rw [←ed2]
   exact TrsAt.app (gJ _ hx7) (gH _ hx7)
 · rw [z9,zm,zI]
   omega
 · have q1:=cC (ds.take n'++ [(us,ff,wt,b)]) (ds.drop (n'+1))
   rw [←be ed,A1,be ed,cC] at q1
   have:=pk.nn
   rw [cC]
   omega
 · rcases zf.mp md with md|md
   · exact (pk.ok d (List.mem_of_mem_take md)).mono (by omega) (by omega) (by omega) (by omega)
   · exact (pk.ok d (List.mem_of_mem_drop md)).mono (by omega) (by omega) (by omega) (by omega)
end
open PySem L2 Mth Tre Wd Dj Su EqD
def T57:Int:=10^57
theorem t57:(1000000:Int)≤T57∧(T57+10).natAbs < 2^190∧T57 < 2^190∧(10:Int)^56≤T57:=by decide +kernel
theorem lt57 {x:Int} (h:x.natAbs≤T57.natAbs):Lt2 190 x:=by
 have:=t57
 unfold Lt2
 omega
theorem nI {x:Int} (h:x.natAbs≤T57.natAbs):Big x:=(lt57 h).big (by decide)
theorem xk {H:Hp} {q0 q1 q2:Addr} {r:Int} (h0:0≤r) (h5:r < 3) (a0:H q0=some (.tup [.int 1, .int 1])) (a1:H q1=some (.tup [.int 1, .int 2])) (a2:H q2=some (.tup [.int (-1), .int 1])):
 ∃(v:Addr) (p:Fr),atI [V.ref q0, .ref q1, .ref q2] r=some (.ref v)∧H v=some (.tup [.int p.1, .int p.2])∧Gf 2 p∧Sh p:=by
 have:r=0∨r=1∨r=2:=by omega
 rcases this with rfl|rfl|rfl
 · exact ⟨q0,(1,1),rfl,a0,⟨by decide,by unfold Lt2;decide,by unfold Lt2;decide⟩,⟨by decide,by decide⟩⟩
 · exact ⟨q1,(1,2),rfl,a1,⟨by decide,by unfold Lt2;decide,by unfold Lt2;decide⟩,⟨by decide,by decide⟩⟩
 · exact ⟨q2,(-1,1),rfl,a2,⟨by decide,by unfold Lt2;decide,by unfold Lt2;decide⟩,⟨by decide,by decide⟩⟩
section
variable {P:Program} {w:World} {K:PySem.W.Frag} {mg:Str→Option Value} {base:Heap}
def spGp:Sp:=fun vs H Q _=>∃(tp c nl:Addr) (k:Nat),vs= [.ref tp, .ref nl]∧TapeAt H tp c k∧k+40≤1000000∧Names H nl∧nl≠tp∧
 ∀(v':V) (ds:List Pd) (H':Hp),TapeAt H' tp c (k+40)→But tp H H'→TrAt H' v' (.tup (ds.map pdT))→Pk 4 1 2 191 193 190 ds→ds≠ []→Q v' H'
theorem scGp:aD ["_law_tape_here","_law_names_here","_law_one","_law_weight","_law_whole_here","_law_more","_law_parts_here"] ["_law_tape_here","_law_names_here"] (ah sGrP):=⟨rfl,rfl,rfl,by decide +kernel,rfl,by decide +kernel,by decide +kernel⟩
theorem yJ {f fD fF fM fE fP C:Addr} {fd dD dF dM dE dP:FuncData} (F:Fun K "_law_great_parts" "_law_great_parts" sGrP f fd) (B:Blt mg)
 (gD:FnOk P w K mg base CX0 1 fD dD ["_law_tape_here","_law_many"] eD) (kD:PySem.W.keepIn K (.ref fD)=true) (bD:Binds K dD ["_law_tape_here","_law_many"] []) (mD:mg "_law_draw"=some (.ref fD))
 (gF:FnOk P w K mg base (CX1 P w) 3 fF dF ["top","bottom"] (spFr C)) (kF:PySem.W.keepIn K (.ref fF)=true) (bF:Binds K dF ["top","bottom"] []) (mF:mg "fraction"=some (.ref fF))
 (gM:FnOk P w K mg base CX0 3 fM dM ["pairs"] ik) (kM:PySem.W.keepIn K (.ref fM)=true) (bM:Binds K dM ["pairs"] []) (mM:mg "sum_of"=some (.ref fM))
 (gE:FnOk P w K mg base CX0 3 fE dE ["_law_tape_here","_law_names_here","_law_deep"] (j9 2)) (kE:PySem.W.keepIn K (.ref fE)=true) (bE:Binds K dE ["_law_tape_here","_law_names_here","_law_deep"] []) (mE:mg "_law_term"=some (.ref fE))
 (gP:FnOk P w K mg base CX0 2 fP dP ["one","other"] (eZ K)) (kP:PySem.W.keepIn K (.ref fP)=true) (bP:Binds K dP ["one","other"] []) (mP:mg "plus"=some (.ref fP)):FnOk P w K mg base CX0 4 f fd ["_law_tape_here","_law_names_here"] spGp:=by
 refine F.ok scGp (fun vs H Q E h=> ?_) (fun cdv A outer s H vs Q E hr h=> ?_)
 · obtain ⟨tp,c,nl,k,rfl,_⟩:=h
   rfl
 obtain ⟨tp,c,nl,kk,rfl,hT,hn,hN,nt,k⟩:=h
 have hr1:Room 1 _:=hr.mono (by decide)
 have hr2:Room 2 _:=hr.mono (by decide)
 have hr3:Room 3 _:=hr.mono (by decide)
 refine ⟨_,(af (aJ (i:=2) scGp.nd rfl (Or.inl rfl) (ai gF hr3 rfl mF kF bF .nil jf (a8 (aH o6 (ai gD hr1 rfl mD kD bD .nil ak (a8 (pv 0) (a8 (aH jg ac ac) a9))) (aH jg ac ac)) (a8 (aH bK ac (ai gD hr1 rfl mD kD bD .nil ak (a8 (pv 0) (a8 (aH jg ac ac) a9)))) a9))))
  (af (aJ (i:=3) scGp.nd rfl (Or.inl rfl) (ai gF hr3 rfl mF kF bF .nil jf (a8 (aH bK ac (ai gD hr1 rfl mD kD bD .nil ak (a8 (pv 0) (a8 (aH jg ac ac) a9)))) (a8 (aH bK ac (ai gD hr1 rfl mD kD bD .nil ak (a8 (pv 0) (a8 (aH jg ac ac) a9)))) a9))))
  (af (aJ (i:=4) scGp.nd rfl (Or.inl rfl) (ai gM hr3 rfl mM kM bM .nil ak (a8 (cG (a8 (aB (a8 (ai gE hr3 rfl mE kE bE .nil ak (a8 (pv 0) (a8 (pv 1) (a8 ac a9)))) (a8 (pv 2) a9))) a9)) a9)))
  (af (aJ (i:=5) scGp.nd rfl (Or.inl rfl) (aw bV (cG (a8 (aB (a8 ac (a8 ac a9))) (a8 (aB (a8 ac (a8 ac a9))) (a8 (aB (a8 (cW cq ac) (a8 ac a9))) a9)))) (ai gD hr1 rfl mD kD bD .nil ak (a8 (pv 0) (a8 ac a9))) fun _ _=>rfl))
  (af (aJ (i:=6) scGp.nd rfl (Or.inl rfl) (cG (a8 (aB (a8 (aB (a8 aY (a8 (pv 4) (a8 (pv 2) a9)))) (a8 cQ (a8 (pv 3) a9)))) (a8 (aB (a8 (aB (a8 aY (a8 (pv 4) (a8 (ai gP hr2 rfl mP kP bP .nil ak (a8 (pv 2) (a8 (pv 5) a9))) a9)))) (a8 cQ (a8 (pv 3) a9)))) a9))))
  (af (aP (aE bY (ai gD hr1 rfl mD kD bD .nil ak (a8 (pv 0) (a8 ac a9))) ac (aA _)) (aj (f8 (l9 PySem.F.plainAttrs_list PySem.F.slot_list_reverse PySem.F.type_list_reverse o8 (pv 6)))) au)
  (aj (am (cn cp rfl B.tu PyProof.Rows.boot_tuple (a8 (pv 6) a9)))))))))),?_⟩
 have hL20:(20000:Nat)≤sizeLine:=by decide +kernel
 have e57:(10:Int)^(57:Int).toNat=T57:=by decide +kernel
 have e56:(10:Int)^(56:Int).toNat=10^56:=by decide +kernel
 obtain ⟨g1,g2,g3,g4⟩:=t57
 have p56:(0:Int) < 10^56:=by decide +kernel
 have T0:0 < T57:=by omega
 have bT:Big T57:=nI (yZ _)
 refine ⟨_,rfl,10,57,rfl,rfl,⟨by decide,by decide,by decide⟩,tp,c,T57,kk,by rw [←e57];rfl,hT,by omega,T0,bT,fun x1 H1 x10 x11 hT1 kp1=> ?_⟩
 refine ⟨10,56,rfl,rfl,⟨by decide,by decide,by decide⟩,x1,10^56,rfl,by rw [←e56],?_⟩
 refine ⟨_,rfl,10,57,rfl,rfl,⟨by decide,by decide,by decide⟩,tp,c,T57,kk+1,by rw [←e57];rfl,hT1,by omega,T0,bT,fun x2 H2 x20 x21 hT2 kp2=> ?_⟩
 have bb:(0:Int) < 1+x2:=by omega
 refine ⟨_,_,rfl,rfl,x1 - 10^56,1+x2,rfl,nI (by omega),nI (by omega),fun z=>absurd z (by omega),fun _ p1 np1=> ?_⟩
 have hl1:=pL (t:=x1 - 10^56) bb
 have sh1:=dr (t:=x1 - 10^56) (b:=1+x2) (by omega)
 have gf1:Gf 190 (fx (x1 - 10^56) (1+x2),fy (x1 - 10^56) (1+x2)):=⟨sh1.1,lt57 (by omega),lt57 (by omega)⟩
 have b02:But tp H H2:=But.of_keep (kp1.trans kp2)
 have t3:=ae (o:= .tup [.int (fx (x1 - 10^56) (1+x2)), .int (fy (x1 - 10^56) (1+x2))]) np1
 have hp1:(upd H2 p1 (.tup [.int (fx (x1 - 10^56) (1+x2)), .int (fy (x1 - 10^56) (1+x2))])) p1=some (.tup [.int (fx (x1 - 10^56) (1+x2)), .int (fy (x1 - 10^56) (1+x2))]):=aa
 have hT3:=hT2.same t3
 have b03:=b02.trans (But.of_same t3)
 obtain ⟨o1,eo1⟩:∃o:Fr,(fx (x1 - 10^56) (1+x2),fy (x1 - 10^56) (1+x2))=o:=⟨_,rfl⟩
 have q1:fx (x1 - 10^56) (1+x2)=o1.1:=by rw [←eo1]
 have q2:fy (x1 - 10^56) (1+x2)=o1.2:=by rw [←eo1]
 rw [q1,q2] at hp1 gf1 sh1 hT3 b03
 rw [q1,q2]
 generalize upd H2 p1 (.tup [.int o1.1, .int o1.2])=H3 at hp1 hT3 b03 ⊢
 clear t3 hl1 q1 q2 eo1
 refine aR ?_
 refine ⟨_,rfl,10,57,rfl,rfl,⟨by decide,by decide,by decide⟩,tp,c,T57,kk+2,by rw [←e57];rfl,hT3,by omega,T0,bT,fun y1 H4 y10 y11 hT4 kp4=> ?_⟩
 refine ⟨_,_,rfl,rfl,?_⟩
 refine ⟨_,rfl,10,57,rfl,rfl,⟨by decide,by decide,by decide⟩,tp,c,T57,kk+3,by rw [←e57];rfl,hT4,by omega,T0,bT,fun y2 H5 y20 y21 hT5 kp5=> ?_⟩
 have bb2:(0:Int) < 1+y2:=by omega
 refine ⟨_,_,rfl,rfl,1+y1,1+y2,rfl,nI (by omega),nI (by omega),fun z=>absurd z (by omega),fun _ p2 np2=> ?_⟩
 have hl2:=pL (t:=1+y1) bb2
 have sh2:=dr (t:=1+y1) (b:=1+y2) (by omega)
 have gf2:Gf 190 (fx (1+y1) (1+y2),fy (1+y1) (1+y2)):=⟨sh2.1,lt57 (by omega),lt57 (by omega)⟩
 have b35:But tp H3 H5:=But.of_keep (kp4.trans kp5)
 have kd35:=b35.kd hT3 hT5
 have t6:=ae (o:= .tup [.int (fx (1+y1) (1+y2)), .int (fy (1+y1) (1+y2))]) np2
 have hp2:(upd H5 p2 (.tup [.int (fx (1+y1) (1+y2)), .int (fy (1+y1) (1+y2))])) p2=some (.tup [.int (fx (1+y1) (1+y2)), .int (fy (1+y1) (1+y2))]):=aa
 have hT6:=hT5.same t6
 have b06:=b03.trans (b35.trans (But.of_same t6))
 have hp16:=t6 _ _ (kd35.tup _ _ hp1)
 obtain ⟨o2,eo2⟩:∃o:Fr,(fx (1+y1) (1+y2),fy (1+y1) (1+y2))=o:=⟨_,rfl⟩
 have q1:fx (1+y1) (1+y2)=o2.1:=by rw [←eo2]
 have q2:fy (1+y1) (1+y2)=o2.2:=by rw [←eo2]
 rw [q1,q2] at hp2 gf2 sh2 hT6 b06 hp16
 rw [q1,q2]
 generalize upd H5 p2 (.tup [.int o2.1, .int o2.2])=H6 at hp2 hT6 b06 hp16 ⊢
 clear t6 hl2 q1 q2 eo2 kd35 b35 hp1 hT3 hT5 hT4 hT2 hT1
 refine aR ?_
 refine ⟨_,rfl,_,rfl,tp,c,nl,1,kk+4,rfl,hT6,by show kk+4+16≤1000000;omega,hN.but nt b06,nt,by decide,fun v t H7 hT7 b7 hv tyt lnt dt=> ?_⟩
 have hT7':TapeAt H7 tp c (kk+4+16):=hT7
 have kd7:=b7.kd hT6 hT7
 refine ⟨_,rfl,by show 2≤sizeLine;decide,fun q0 nq0=> ?_⟩
 have t0:=ae (o:= .tup [v, .ref p1]) nq0
 refine ⟨by show 1≤sizeLine;decide,fun l0 nl0=> ?_⟩
 have t1:=ae (o:= .lst [.ref q0]) nl0
 have hp17:=kd7.tup _ _ hp16
 have g11:Gq 190 (t,o1):=⟨tyt,by show t.depth≤7;omega,gf1,sh1⟩
 have hq0:TrsAt (upd (upd H7 q0 (.tup [v, .ref p1])) l0 (.lst [.ref q0])) [.ref q0] ([((t,o1):Pq)].map prT):= .cons (cN (t1 _ _ aa) (hv.mono (Kd.of_same (t0.trans t1))) (aK (t1 _ _ (t0 _ _ hp17)))) .nil
 refine ⟨l0,_,[(t,o1)],1,190,rfl,aa,hq0,yZ _,by decide,by decide,fun p m=>by rw [ze.mp m];exact g11,fun wv H8 us s8 hwv hcan hul hgu=> ?_⟩
 have t78:=(t0.trans t1).trans s8
 have uus:Us 1 191 us:=Us.can hcan hul hgu fun p m=>by
  rw [ze.mp m]
  exact ⟨lnt,by show t.depth≤3;omega⟩
 have hT8:=hT7'.same t78
 have b08:=b06.trans (b7.trans (But.of_same t78))
 have hp18:=t78 _ _ hp17
 have hp28:=t78 _ _ (kd7.tup _ _ hp2)
 clear hq0 hp17 hp16 hp2 hT7 hT7' hT6 t0 t1 s8 kd7 b7 hv
 generalize H8=H8 at hT8 b08 hp18 hp28 hwv
 refine aR ?_
 refine ⟨by show 2≤sizeLine;decide,fun q0 nq0=> ?_⟩
 have t0:=ae (o:= .tup [.int 1, .int 1]) nq0
 refine ⟨by show 2≤sizeLine;decide,fun q1 nq1=> ?_⟩
 have t1:=ae (o:= .tup [.int 1, .int 2]) nq1
 refine ⟨_,rfl,by show 2≤sizeLine;decide,fun q2 nq2=> ?_⟩
 have t2:=ae (o:= .tup [.int (-1), .int 1]) nq2
 refine ⟨by show 3≤sizeLine;decide,fun L nL=> ?_⟩
 have t4:=ae (o:= .lst [.ref q0, .ref q1, .ref q2]) nL
 have a2:=t4 _ _ (aa (o:=HO.tup [.int (-1), .int 1]))
 have a1:=t4 _ _ (t2 _ _ (aa (o:=HO.tup [.int 1, .int 2])))
 have a0:=t4 _ _ (t2 _ _ (t1 _ _ (aa (o:=HO.tup [.int 1, .int 1]))))
 have tt:=t0.trans (t1.trans (t2.trans t4))
 have nLt:L≠tp:=fun z=>by
  subst z
  obtain ⟨ys,hys⟩:=hT8.lst
  have h2:=t2 _ _ (t1 _ _ (t0 _ _ hys))
  rw [nL] at h2
  cases h2
 have aL:=aa (H:=upd (upd (upd H8 q0 (.tup [.int 1, .int 1])) q1 (.tup [.int 1, .int 2])) q2 (.tup [.int (-1), .int 1])) (a:=L) (o:= .lst [.ref q0, .ref q1, .ref q2])
 generalize upd (upd (upd (upd H8 q0 (.tup [.int 1, .int 1])) q1 (.tup [.int 1, .int 2])) q2 (.tup [.int (-1), .int 1])) L (.lst [.ref q0, .ref q1, .ref q2])=HA at a0 a1 a2 tt aL ⊢
 have hTA:=hT8.same tt
 refine ⟨_,rfl,tp,c,3,kk+4+16,rfl,hTA,by omega,by decide,cz (by decide) (by decide),fun rB HB rB0 rB4 hTB kpB=> ?_⟩
 have bB:But tp HA HB:=But.of_keep kpB
 have kdB:=bB.kd hTA hTB
 obtain ⟨rm,mf,eav,hrm,gmf,smf⟩:=xk rB0 rB4 (kdB.tup _ _ a0) (kdB.tup _ _ a1) (kdB.tup _ _ a2)
 refine ⟨L,_,rB,_,rfl,rfl,SqL.of (bB _ _ nLt aL),eav,?_⟩
 have kdAB:=(Kd.of_same tt).trans kdB
 have b0B:=b08.trans ((But.of_same tt).trans bB)
 have hwB:=hwv.mono kdAB
 have hp1B:=kdAB.tup _ _ hp18
 have hp2B:=kdAB.tup _ _ hp28
 refine aR ?_
 clear a0 a1 a2 aL tt t0 t1 t2 t4 hwv hp18 hp28 hTA b08 kdB bB kdAB hT8 b02
 refine ⟨_,rfl,_,rfl,by show 3≤sizeLine;decide,fun m1 nm1=> ?_⟩
 have t1:=ae (o:= .tup [.str (Str.ofString "most"),wv, .ref p1]) nm1
 refine ⟨_,rfl,by show 3≤sizeLine;decide,fun d1 nd1=> ?_⟩
 have t2:=ae (o:= .tup [.ref m1, .bl true, .ref p2]) nd1
 have t12:=t1.trans t2
 have hd1:TrAt (upd (upd HB m1 (.tup [.str (Str.ofString "most"),wv, .ref p1])) d1 (.tup [.ref m1, .bl true, .ref p2])) (.ref d1) (ptT us o1 o2 true):=aU aa (.cons (aU (t2 _ _ aa) (.cons cU (.cons (hwB.mono (Kd.of_same t12)) (.cons (aK (t12 _ _ hp1B)) .nil)))) (.cons e9 (.cons (aK (t12 _ _ hp2B)) .nil)))
 generalize upd (upd HB m1 (.tup [.str (Str.ofString "most"),wv, .ref p1])) d1 (.tup [.ref m1, .bl true, .ref p2])=HC at t12 hd1 ⊢
 refine ⟨_,rfl,_,rfl,_,rfl,p1,rm,_,_,_,_,rfl,SqT.of (t12 _ _ hp1B),SqT.of (t12 _ _ hrm),⟨gf1.pos,gmf.pos,gf1.b1 (by decide),gf1.b2 (by decide),gmf.b1 (by decide),gmf.b2 (by decide)⟩,fun r6 HD _ t6 h6=> ?_⟩
 refine ⟨by show 3≤sizeLine;decide,fun m2 nm2=> ?_⟩
 have t7:=ae (o:= .tup [.str (Str.ofString "most"),wv, .ref r6]) nm2
 refine ⟨_,rfl,by show 3≤sizeLine;decide,fun d2 nd2=> ?_⟩
 have t8:=ae (o:= .tup [.ref m2, .bl false, .ref p2]) nd2
 have t28:=t12.trans (t6.trans (t7.trans t8))
 have hd2:TrAt (upd (upd HD m2 (.tup [.str (Str.ofString "most"),wv, .ref r6])) d2 (.tup [.ref m2, .bl false, .ref p2])) (.ref d2) (ptT us (cK o1 mf) o2 false):=aU aa (.cons (aU (t8 _ _ aa) (.cons cU (.cons (hwB.mono (Kd.of_same t28)) (.cons (aK (t8 _ _ (t7 _ _ h6))) .nil)))) (.cons e9 (.cons (aK (t28 _ _ hp2B)) .nil)))
 have hd1':=hd1.mono (Kd.of_same (t6.trans (t7.trans t8)))
 generalize upd (upd HD m2 (.tup [.str (Str.ofString "most"),wv, .ref r6])) d2 (.tup [.ref m2, .bl false, .ref p2])=HE at t28 hd2 hd1' ⊢
 refine ⟨by show 2≤sizeLine;decide,fun LL nLL=> ?_⟩
 have t9:=ae (o:= .lst [.ref d1, .ref d2]) nLL
 have tBF:=t28.trans t9
 have hd1F:=hd1'.mono (Kd.of_same t9)
 have hd2F:=hd2.mono (Kd.of_same t9)
 have hLL:(upd HE LL (.lst [.ref d1, .ref d2])) LL=some (.lst [.ref d1, .ref d2]):=aa
 have hTF:=hTB.same tBF
 have nLL0:=(b0B.trans (But.of_same t28)).free (hTB.same t28) nLL
 have nfL:=(hTB.same t28).ne nLL
 have b0F:=b0B.trans (But.of_same tBF)
 generalize upd HE LL (.lst [.ref d1, .ref d2])=HF at tBF hd1F hd2F hLL hTF b0F ⊢
 have ok1:PdOk 1 191 193 190 (us,o1,o2,true):=⟨uus,gf1.mono (by decide),sh1,gf2,sh2⟩
 have ok2:PdOk 1 191 193 190 (us,cK o1 mf,o2,false):=⟨uus,gf1.plus gmf,df sh1 smf,gf2,sh2⟩
 have ul:=uus.len
 refine aR ?_
 try dsimp only
 refine dg (fun σ' H'=>∃(vs:List V) (ds:List Pd),σ'[6]?=some (some (.ref LL))∧H' LL=some (.lst vs)∧TrsAt H' vs (ds.map pdT)∧Pk 4 1 2 191 193 190 ds∧ds≠ []∧TapeAt H' tp c (kk+22)∧But tp H H') ?_ fun nx hnx=> ?_
 rotate_left
 · refine ⟨_,rfl,tp,c,2,kk+4+16+1,rfl,hTF,by omega,by decide,cz (by decide) (by decide),fun rG HG _ _ hTG kpG=> ?_⟩
   have bG:But tp HF HG:=But.of_keep kpG
   have kdG:=bG.kd hTF hTG
   have hLLG:=bG _ _ nfL.1 hLL
   have hd1G:=hd1F.mono kdG
   have hd2G:=hd2F.mono kdG
   have hTG':TapeAt HG tp c (kk+22):=hTG.mono (by omega)
   refine ⟨rfl,_,rfl,?_⟩
   by_cases z:rG=0
   · refine if_t (decide_eq_true (congrArg V.int z)) ?_
     refine ⟨_,rfl, .inl ⟨rfl,_,SqL.of hLLG⟩,LL,_,rfl,rfl,hLLG,?_⟩
     have kdu:=Kd.upd (ys:= [V.ref d2, .ref d1]) hLLG
     refine hnx _ _ ⟨[.ref d2, .ref d1],[(us,cK o1 mf,o2,false),(us,o1,o2,true)],rfl,aa, .cons (hd2G.mono kdu) (.cons (hd1G.mono kdu) .nil),⟨by show 2≤4;decide,by simp [nps];omega,fun d md=> ?_⟩,by simp,hTG'.wr nfL,(b0F.trans bG).wr nLL0⟩
     simp only [zc,zv,or_false] at md
     rcases md with rfl|rfl
     · exact ok2
     · exact ok1
   · refine if_f (decide_eq_false (fun q=>z (V.int.inj q))) ?_
     refine hnx _ _ ⟨[.ref d1, .ref d2],[(us,o1,o2,true),(us,cK o1 mf,o2,false)],rfl,hLLG, .cons hd1G (.cons hd2G .nil),⟨by show 2≤4;decide,by simp [nps];omega,fun d md=> ?_⟩,by simp,hTG',b0F.trans bG⟩
     simp only [zc,zv,or_false] at md
     rcases md with rfl|rfl
     · exact ok1
     · exact ok2
 rintro σ7 HH ⟨vs,ds,e6,hl,hTs,pk,dz,hTH,bH⟩
 refine ⟨_,e6,LL,_,rfl, .inl ⟨SqL.of hl,fun l nl'=> ?_⟩⟩
 have sl:=ae (o:= .tup vs) nl'
 exact k (.ref l) ds _ ((hTH.same sl).mono (by omega)) (bH.trans (But.of_same sl)) (aU aa (hTs.mono (Kd.of_same sl))) pk dz
end
end K25
namespace K25
open PySem L2 Mth Tre Wd Dj Su
section
variable {P:Program} {w:World} {K:PySem.W.Frag} {mg:Str→Option Value} {base:Heap}
def spRi:Sp:=fun vs H Q _=>∃(v:V) (ds:List Pd) (s n e g ew:Nat),vs= [v]∧TrAt H v (.tup (ds.map pdT))∧Bn s n e g ew ds∧∀H',Same H H'→Q (.bl true) H'
theorem scRi:aD ["_law_parts_here","_law_word","_law_found","_law_due_here"] ["_law_parts_here"] (ah iu):=⟨rfl,rfl,rfl,by decide +kernel,rfl,by decide +kernel,by decide +kernel⟩
theorem yD {f fA fU fL:Addr} {fd dA dU dL:FuncData} (F:Fun K "_law_right" "_law_right" iu f fd)
 (gA:FnOk P w K mg base CX0 26 fA dA ["_law_wishes","_law_rows","_law_step"] rT) (kA:PySem.W.keepIn K (.ref fA)=true) (bA:Binds K dA ["_law_wishes","_law_rows","_law_step"] []) (mA:mg "_law_asked"=some (.ref fA))
 (gU:FnOk P w K mg base CX0 6 fU dU ["_law_parts_here"] rS) (kU:PySem.W.keepIn K (.ref fU)=true) (bU:Binds K dU ["_law_parts_here"] []) (mU:mg "_law_due"=some (.ref fU))
 (gL:FnOk P w K mg base CX0 33 fL dL ["_law_found","_law_due_here"] (spAl 32)) (kL:PySem.W.keepIn K (.ref fL)=true) (bL:Binds K dL ["_law_found","_law_due_here"] []) (mL:mg "_law_alike"=some (.ref fL)):FnOk P w K mg base CX0 34 f fd ["_law_parts_here"] spRi:=by
 refine F.ok scRi (fun vs H Q E h=> ?_) (fun cdv A outer s H vs Q E hr h=> ?_)
 · obtain ⟨v,ds,_,_,_,_,_,rfl,_⟩:=h
   rfl
 obtain ⟨v,ds,s_,n,e,g,ew,rfl,hv,bn,k⟩:=h
 have hr6:Room 6 _:=hr.mono (by decide)
 have hr26:Room 26 _:=hr.mono (by decide)
 have hr33:Room 33 _:=hr
 refine ⟨_,af (fk (ai gA hr26 rfl mA kA bA .nil ak (a8 (cG a9) (a8 (cG a9) (a8 (aB (a8 aY (a8 (pv 0) a9))) a9)))) (cw rfl (aI (ax (i:=1) scRi.nd rfl (Or.inl rfl)) (aI (ax (i:=2) scRi.nd rfl (Or.inl rfl)) ci))))
  (af (aJ (i:=3) scRi.nd rfl (Or.inl rfl) (ai gU hr6 rfl mU kU bU .nil ak (a8 (pv 0) a9)))
  (af (aP (aE iF (pv 3) eG (aA _)) (aj (am (c9 (bJ bY (pv 1) aY (aA _)) (cF (bJ iF (pv 2) eG (aA _)))))) au)
  (aj (am (c9 (bJ bY (pv 1) aY (aA _)) (cF (ai gL hr33 rfl mL kL bL .nil ak (a8 (pv 2) (a8 (pv 3) a9))))))))),?_⟩
 refine ⟨by show 0≤sizeLine;decide,fun l1 n1=> ?_⟩
 have t1:=ae (o:= .lst []) n1
 refine ⟨by show 0≤sizeLine;decide,fun l2 n2=> ?_⟩
 have t2:=ae (o:= .lst []) n2
 refine ⟨_,rfl,by show 2≤sizeLine;decide,fun q nq=> ?_⟩
 have t3:=ae (o:= .tup [.str (Str.ofString "sum"),v]) nq
 have t13:=t1.trans (t2.trans t3)
 have hq:TrAt (upd (upd (upd H l1 (.lst [])) l2 (.lst [])) q (.tup [.str (Str.ofString "sum"),v])) (.ref q) (smT ds):=aU aa (.cons cU (.cons (hv.mono (Kd.of_same t13)) .nil))
 generalize upd (upd (upd H l1 (.lst [])) l2 (.lst [])) q (.tup [.str (Str.ofString "sum"),v])=H3 at hq t13 ⊢
 refine ⟨l1,l2, .ref q,ds,s_,n,e,g,ew,rfl,hq,bn,fun ng r H4 t4 hr4=> ?_,fun gr r x H4 rs t4 ro hx hr4=> ?_⟩
 · have t14:=t13.trans t4
   refine ⟨r,_,rfl,SqT.of hr4,rfl,_,_,rfl,_,_,rfl,rfl,?_⟩
   refine ⟨_,rfl,v,ds,s_,n,e,g,ew,rfl,hv.mono (Kd.of_same t14),bn,fun _ H5 t5=> ?_,fun gr=>absurd gr ng⟩
   refine aR ?_
   refine ⟨_,rfl,rfl,_,rfl,if_t (decide_eq_true rfl) ?_⟩
   refine ⟨_,rfl,rfl,_,rfl,if_t (decide_eq_true rfl) ?_⟩
   refine ⟨_,rfl,rfl,?_⟩
   exact k _ (t14.trans t5)
 · have t14:=t13.trans t4
   refine ⟨r,_,rfl,SqT.of hr4,rfl,_,_,rfl,_,_,rfl,rfl,?_⟩
   refine ⟨_,rfl,v,ds,s_,n,e,g,ew,rfl,hv.mono (Kd.of_same t14),bn,fun ng=>absurd gr ng,fun _ y H5 rs2 t5 ro2 hy=> ?_⟩
   have er:rs=rs2:=by
    have:=ro.eq.symm.trans ro2.eq
    exact Tr.tup.inj this
   subst er
   have rty:∀t∈rs,Ty .lt t∧t.depth≤11:=fun t m=>by
    obtain ⟨d,md,rfl⟩:=zx.mp ((ro.mem t).mp m)
    exact tM (bn.ok d md)
   have pu:(Tr.tup rs).pure:=by
    unfold Tr.pure
    exact fh fun t m=>cV (rty t m).1
   have dep:(Tr.tup rs).depth≤12:=e5 fun t m=>(rty t m).2
   obtain ⟨da,dvs,rfl,_,_⟩:=at_t hy
   refine aR ?_
   refine ⟨_,rfl,rfl,_,rfl,if_f (decide_eq_false (fun e=>by cases e)) ?_⟩
   refine ⟨_,rfl,rfl,_,rfl,if_t (decide_eq_true rfl) ?_⟩
   exact ⟨_,rfl,_,rfl,_,_,rfl,wo 32 (hx.mono (Kd.of_same t5)) hy pu (by omega),fun H6 t6=>k _ (t14.trans (t5.trans t6))⟩
end
open PySem L2 Mth Tre Wd Dj Su EqD
theorem Pk.mono {c s n e g ew c' s' n' e' g' ew':Nat} {ds:List Pd} (h:Pk c s n e g ew ds) (h1:c≤c') (h2:s≤s') (h3:n≤n') (h4:e≤e') (h5:g≤g') (h6:ew≤ew'):Pk c' s' n' e' g' ew' ds:=⟨zJ h.len h1,zJ h.nn h3,fun d m=>(h.ok d m).mono h2 h4 h5 h6⟩
def Cs (j:Nat) (ds:List Pd):Prop:=Pk (4+j) (9+j) (18+10*j) (181+3*j) (102+4*j) (14+3*j) ds∨Pk (4+j) (1+j) (2+2*j) (191+3*j) (193+4*j) (190+3*j) ds
theorem Cs.bn {j:Nat} {ds:List Pd} (h:Cs j ds) (hj:j≤2):∃s n e g ew,Bn s n e g ew ds:=by
 have hj:j=0∨j=1∨j=2:=by omega
 rcases h with h|h<;>rcases hj with rfl|rfl|rfl<;>
  exact ⟨_,_,_,_,_,h.ok,zJ h.len (by decide),h.nn,by decide,by decide,by decide,by decide,by decide,by decide,by decide,by decide,by decide⟩
theorem Cs.spo {j:Nat} {ds:List Pd} (h:Cs j ds) (hj:j < 2):∃m s n e g ew,Pk m s n e g ew ds∧m≤20∧1≤s∧s≤40∧e≤600∧g≤900∧ew≤900∧∀ds',Pk (m+1) (s+1) (n+s) (e+3) (g+4) (ew+3) ds'→Cs (j+1) ds':=by
 rcases h with h|h
 · exact ⟨_,_,_,_,_,_,h,by omega,by omega,by omega,by omega,by omega,by omega,fun ds' p=> .inl (p.mono (by omega) (by omega) (by omega) (by omega) (by omega) (by omega))⟩
 · exact ⟨_,_,_,_,_,_,h,by omega,by omega,by omega,by omega,by omega,by omega,fun ds' p=> .inr (p.mono (by omega) (by omega) (by omega) (by omega) (by omega) (by omega))⟩
theorem Cs.new {j:Nat} {ds:List Pd} (h:Pk 4 9 18 181 102 14 ds):Cs j ds:= .inl (h.mono (by omega) (by omega) (by omega) (by omega) (by omega) (by omega))
section
variable {P:Program} {w:World} {K:PySem.W.Frag} {mg:Str→Option Value} {base:Heap}
def oX (K:PySem.W.Frag):Sp:=fun vs H Q _=>∃(a:Addr) (ns:List Int),vs= [.ref a]∧SqL K H a (ns.map V.int)∧ns.length≤63∧∀H',Q (.bl true) H'
theorem scL:aD ["_law_script","_law_tape_here","_law_names_here","_law_k","_law_parts_here","_law_j"] ["_law_script"] (ah sLaw):=⟨rfl,rfl,rfl,by decide +kernel,rfl,by decide +kernel,by decide +kernel⟩
theorem xA {f fTp fNm fDr fPs fGp fSo fRi:Addr} {fd dTp dNm dDr dPs dGp dSo dRi:FuncData} (F:Fun K "law" "law" sLaw f fd) (B:Blt mg)
 (gTp:FnOk P w K mg base CX0 1 fTp dTp ["_law_script"] (rM K)) (kTp:PySem.W.keepIn K (.ref fTp)=true) (bTp:Binds K dTp ["_law_script"] []) (mTp:mg "_law_tape"=some (.ref fTp))
 (gNm:FnOk P w K mg base CX0 2 fNm dNm ["_law_tape_here"] oW) (kNm:PySem.W.keepIn K (.ref fNm)=true) (bNm:Binds K dNm ["_law_tape_here"] []) (mNm:mg "_law_names"=some (.ref fNm))
 (gDr:FnOk P w K mg base CX0 1 fDr dDr ["_law_tape_here","_law_many"] eD) (kDr:PySem.W.keepIn K (.ref fDr)=true) (bDr:Binds K dDr ["_law_tape_here","_law_many"] []) (mDr:mg "_law_draw"=some (.ref fDr))
 (gPs:FnOk P w K mg base CX0 6 fPs dPs ["_law_tape_here","_law_names_here"] kH) (kPs:PySem.W.keepIn K (.ref fPs)=true) (bPs:Binds K dPs ["_law_tape_here","_law_names_here"] []) (mPs:mg "_law_parts"=some (.ref fPs))
 (gGp:FnOk P w K mg base CX0 4 fGp dGp ["_law_tape_here","_law_names_here"] spGp) (kGp:PySem.W.keepIn K (.ref fGp)=true) (bGp:Binds K dGp ["_law_tape_here","_law_names_here"] []) (mGp:mg "_law_great_parts"=some (.ref fGp))
 (gSo:FnOk P w K mg base CX0 5 fSo dSo ["_law_tape_here","_law_parts_here","_law_names_here"] rO) (kSo:PySem.W.keepIn K (.ref fSo)=true) (bSo:Binds K dSo ["_law_tape_here","_law_parts_here","_law_names_here"] []) (mSo:mg "_law_spoiled"=some (.ref fSo))
 (gRi:FnOk P w K mg base CX0 34 fRi dRi ["_law_parts_here"] spRi) (kRi:PySem.W.keepIn K (.ref fRi)=true) (bRi:Binds K dRi ["_law_parts_here"] []) (mRi:mg "_law_right"=some (.ref fRi)):
 FnOk P w K mg base CX0 35 f fd ["_law_script"] (oX K):=by
 refine F.ok scL (fun vs H Q E h=> ?_) (fun cdv A outer s H vs Q E hr h=> ?_)
 · obtain ⟨a,ns,rfl,_⟩:=h
   rfl
 obtain ⟨a,ns,rfl,hS,hl,k⟩:=h
 have hr1:Room 1 _:=hr.mono (by decide)
 have hr2:Room 2 _:=hr.mono (by decide)
 have hr4:Room 4 _:=hr.mono (by decide)
 have hr5:Room 5 _:=hr.mono (by decide)
 have hr6:Room 6 _:=hr.mono (by decide)
 have hr34:Room 34 _:=hr.mono (by decide)
 have hun:=hr.units
 have hu50:_+50 < cLine:=zq (zM (by decide) _) hun
 refine ⟨_,(af (aJ (i:=1) scL.nd rfl (Or.inl rfl) (ai gTp hr1 rfl mTp kTp bTp .nil ak (a8 (pv 0) a9)))
  (af (aJ (i:=2) scL.nd rfl (Or.inl rfl) (ai gNm hr2 rfl mNm kNm bNm .nil ak (a8 (pv 1) a9)))
  (af (gv PassesOwn.never rfl (di rfl B.ra (a8 ac a9)) (ax (i:=3) scL.nd rfl (Or.inl rfl)) (af (aJ (i:=4) scL.nd rfl (Or.inl rfl) (ai gPs hr6 rfl mPs kPs bPs .nil ak (a8 (pv 1) (a8 (pv 2) a9))))
  (af (aP (aE bY (ai gDr hr1 rfl mDr kDr bDr .nil ak (a8 (pv 1) (a8 ac a9))) ac (aA _)) (aj (aJ (i:=4) scL.nd rfl (Or.inl rfl) (ai gGp hr4 rfl mGp kGp bGp .nil ak (a8 (pv 1) (a8 (pv 2) a9))))) au)
  (af (aP (cj (bf (ai gRi hr34 rfl mRi kRi bRi .nil ak (a8 (pv 4) a9)))) (aj (am cQ)) au)
  (aj (gv PassesOwn.never rfl (di rfl B.ra (a8 ac a9)) (ax (i:=5) scL.nd rfl (Or.inl rfl)) (af (aJ (i:=4) scL.nd rfl (Or.inl rfl) (ai gSo hr5 rfl mSo kSo bSo .nil ak (a8 (pv 1) (a8 (pv 4) (a8 (pv 2) a9)))))
  (af (aP (cj (bf (ai gRi hr34 rfl mRi kRi bRi .nil ak (a8 (pv 4) a9)))) (aj (am cQ)) au)
  (aj (aP (aE (jh hu50) (pv 4) (aB a9) (aA _)) (aj (aJ (i:=4) scL.nd rfl (Or.inl rfl) (ai gPs hr6 rfl mPs kPs bPs .nil ak (a8 (pv 1) (a8 (pv 2) a9))))) au))))))))))
  (aj (am cQ))))),?_⟩
 have hL:(20000:Nat)≤sizeLine:=by decide +kernel
 refine ⟨_,rfl,a,ns,rfl,hS,hl,fun tp c H1 _ _ hT1=> ?_⟩
 refine ⟨_,rfl,tp,c,0,rfl,hT1,by decide,fun nl H2 hT2 b2 nnl hN2=> ?_⟩
 have nt:nl≠tp:=(hT1.ne nnl).1
 refine aR ?_
 try dsimp only
 refine ⟨2,rfl,by decide,by decide,?_⟩
 refine jV (n:=2) (fun i σ H'=>TapeAt H' tp c (100+i*2000)∧Names H' nl∧∃x3 x4 x5,σ= [some (.ref a),some (.ref tp),some (.ref nl),x3,x4,x5])
  ⟨hT2.mono (by decide),hN2,none,none,none,rfl⟩ ?_ ?_
 rotate_left
 · rintro σ H' ⟨_,_,x3,x4,x5,rfl⟩
   exact k _
 rintro i σ H3 hi ⟨hT3,hN3,x3,x4,x5,rfl⟩
 obtain ⟨k0,ek⟩:∃k0,100+i*2000=k0:=⟨_,rfl⟩
 have k2:k0≤2100:=by omega
 have ek2:100+(i+1)*2000=k0+2000:=by omega
 rw [ek] at hT3
 rw [ek2]
 refine aR ?_
 refine ⟨_,rfl,_,rfl,tp,c,nl,k0,rfl,hT3,by omega,hN3,nt,fun v ds H4 hT4 b4 hv pk dz=> ?_⟩
 refine aR ?_
 try dsimp only
 have hN4:=hN3.but nt b4
 refine dg (fun σ' H'=>∃(v:V) (ds:List Pd) (y3 y5:Option V),σ'= [some (.ref a),some (.ref tp),some (.ref nl),y3,some v,y5]∧TapeAt H' tp c (k0+441)∧Names H' nl∧TrAt H' v (.tup (ds.map pdT))∧Cs 0 ds∧ds≠ []) ?_ fun nx hnx=> ?_
 rotate_left
 · refine ⟨_,rfl,tp,c,4,k0+400,rfl,hT4,by omega,by decide,cz (by decide) (by decide),fun r H5 _ _ hT5 kp5=> ?_⟩
   have b5:But tp H4 H5:=But.of_keep kp5
   have hN5:=hN4.but nt b5
   refine ⟨rfl,_,rfl,?_⟩
   by_cases z:r=3
   · refine if_t (decide_eq_true (congrArg V.int z)) ?_
     refine ⟨_,rfl,_,rfl,tp,c,nl,k0+400+1,rfl,hT5,by omega,hN5,nt,fun v2 ds2 H6 hT6 b6 hv2 pk2 dz2=> ?_⟩
     exact hnx _ _ ⟨v2,ds2,_,_,rfl,hT6,hN5.but nt b6,hv2, .inr pk2,dz2⟩
   · refine if_f (decide_eq_false (fun q=>z (V.int.inj q))) ?_
     exact hnx _ _ ⟨v,ds,_,_,rfl,hT5.mono (by omega),hN5,hv.mono (b5.kd hT4 hT5), .new pk,dz⟩
 clear hv pk dz
 rintro σ5 H5 ⟨v,ds,y3,y5,rfl,hT5,hN5,hv,cs,dz⟩
 obtain ⟨s_,n,e,g,ew,bn⟩:=cs.bn (by decide)
 refine ⟨_,rfl,v,ds,s_,n,e,g,ew,rfl,hv,bn,fun H6 t6=>⟨true,rfl,iteF ?_⟩⟩
 refine kj ?_
 try dsimp only
 refine ⟨2,rfl,by decide,by decide,?_⟩
 refine jV (n:=2) (fun j σ H'=>∃(v:V) (ds:List Pd) (y3 y5:Option V),σ= [some (.ref a),some (.ref tp),some (.ref nl),y3,some v,y5]∧TapeAt H' tp c (k0+441+j*500)∧Names H' nl∧TrAt H' v (.tup (ds.map pdT))∧Cs j ds∧ds≠ [])
  ⟨v,ds,y3,y5,rfl,hT5.same t6,hN5.but nt (But.of_same t6),hv.mono (Kd.of_same t6),cs,dz⟩ ?_ ?_
 rotate_left
 · rintro σ H' ⟨v,ds,y3,y5,rfl,hT',hN',_⟩
   exact ⟨hT'.mono (by omega),hN',_,_,_,rfl⟩
 clear hv cs dz bn
 rintro j σ H7 hj ⟨v,ds,y3,y5,rfl,hT7,hN7,hv,cs,dz⟩
 obtain ⟨m,s_,n,e,g,ew,pk,q1,q2,q3,q4,q5,q6,nxt⟩:=cs.spo hj
 have ej:k0+441+(j+1)*500=k0+441+j*500+500:=by omega
 refine aR ?_
 refine ⟨_,rfl,_,rfl,_,rfl,tp,c,nl,k0+441+j*500,v,ds,m,s_,n,e,g,ew,rfl,hT7,by omega,hN7,nt,hv,dz,pk,q1,q2,q3,q4,q5,q6,fun v2 ds2 H8 hT8 b8 hv2 pk2=> ?_⟩
 have cs2:=nxt ds2 pk2
 obtain ⟨s2,n2,e2,g2,ew2,bn⟩:=cs2.bn (by omega)
 have hN8:=hN7.but nt b8
 refine aR ?_
 refine ⟨_,rfl,v2,ds2,s2,n2,e2,g2,ew2,rfl,hv2,bn,fun H9 t9=>⟨true,rfl,iteF ?_⟩⟩
 have hT9:=hT8.same t9
 have hN9:=hN8.but nt (But.of_same t9)
 have hv9:=hv2.mono (Kd.of_same t9)
 refine ⟨_,rfl,by show 0≤sizeLine;decide,fun p np=> ?_⟩
 have tA:=ae (o:= .tup []) np
 have hp:(upd H9 p (.tup [])) p=some (.tup []):=aa
 have hTA:=hT9.same tA
 have hNA:=hN9.but nt (But.of_same tA)
 have hvA:=hv9.mono (Kd.of_same tA)
 generalize upd H9 p (.tup [])=HA at hp hTA hNA hvA ⊢
 have ddep:Trs.depth (ds2.map pdT)≤40:=by
  have:=cT (n:=11) (ts:=ds2.map pdT) fun t m=>by
   obtain ⟨d,md,rfl⟩:=zx.mp m
   exact sR (bn.ok d md)
  omega
 refine ⟨ds2.map pdT,[],hvA,aU hp .nil, .inr (by simp [Trs.pure]),ddep,_,rfl,?_⟩
 by_cases z:ds2= []
 · refine if_t (by rw [z];simp [eqTs]) ?_
   refine ⟨_,rfl,_,rfl,tp,c,nl,k0+441+j*500+30,rfl,hTA,by omega,hNA,nt,fun v3 ds3 HB hTB bB hv3 pk3 dz3=> ?_⟩
   refine ⟨v3,ds3,_,_,rfl,?_,hNA.but nt bB,hv3, .new pk3,dz3⟩
   rw [ej]
   exact hTB.mono (by omega)
 · refine if_f (by
    obtain ⟨d,r,rfl⟩:=List.exists_cons_of_ne_nil z
    simp [eqTs]) ?_
   refine ⟨v2,ds2,_,_,rfl,?_,hNA,hvA,cs2,z⟩
   rw [ej]
   exact hTA.mono (by omega)
end
end K25
namespace K25
open PySem L2 Mth Wd
theorem ex0 {n:Nat} (us:List Value) (hl:us.length=n+1):∃a vs,us=a::vs∧vs.length=n:=by
 cases us with
 |nil=>cases hl
 |cons a vs=>exact ⟨a,vs,rfl,Nat.succ.inj hl⟩
theorem ex1 (us:List Value) (hl:us.length=1):∃a,us= [a]:=by
 obtain ⟨a,vs,rfl,h⟩:=ex0 us hl
 exact ⟨a,by rw [A2 h]⟩
theorem ex2 (us:List Value) (hl:us.length=2):∃a b,us= [a,b]:=by
 obtain ⟨a,vs,rfl,h⟩:=ex0 us hl
 obtain ⟨b,rfl⟩:=ex1 vs h
 exact ⟨a,b,rfl⟩
theorem ex3 (us:List Value) (hl:us.length=3):∃a b c,us= [a,b,c]:=by
 obtain ⟨a,vs,rfl,h⟩:=ex0 us hl
 obtain ⟨b,c,rfl⟩:=ex2 vs h
 exact ⟨a,b,c,rfl⟩
theorem all_mk {l:PySem.W.OpenLaw} {w:World} {K:PySem.W.Frag} {h:Heap} {mg:Str→Option Value} {fa C fI:Addr} (X:K.In h) (G:h.Ns mainGlobals mg) (hfa:mg "law"=some (.ref fa))
 {odI anI:Option Addr} {slI:Array (Option Value)} {ocI kVI dcI pmI cdI ctI:Value}
 {fCD:Addr} {odCD anCD:Option Addr} {slCD:Array (Option Value)} {ocCD kVCD dcCD pmCD cdCD ctCD:Value}
 {fFR:Addr} {odFR anFR:Option Addr} {slFR:Array (Option Value)} {ocFR kVFR dcFR pmFR cdFR ctFR:Value}
 {fPL:Addr} {odPL anPL:Option Addr} {slPL:Array (Option Value)} {ocPL kVPL dcPL pmPL cdPL ctPL:Value}
 {fMI:Addr} {odMI anMI:Option Addr} {slMI:Array (Option Value)} {ocMI kVMI dcMI pmMI cdMI ctMI:Value}
 {fTX:Addr} {odTX anTX:Option Addr} {slTX:Array (Option Value)} {ocTX kVTX dcTX pmTX cdTX ctTX:Value}
 {fPD:Addr} {odPD anPD:Option Addr} {slPD:Array (Option Value)} {ocPD kVPD dcPD pmPD cdPD ctPD:Value}
 {fCO:Addr} {odCO anCO:Option Addr} {slCO:Array (Option Value)} {ocCO kVCO dcCO pmCO cdCO ctCO:Value}
 {fSI:Addr} {odSI anSI:Option Addr} {slSI:Array (Option Value)} {ocSI kVSI dcSI pmSI cdSI ctSI:Value}
 {fQW:Addr} {odQW anQW:Option Addr} {slQW:Array (Option Value)} {ocQW kVQW dcQW pmQW cdQW ctQW:Value}
 {fQO:Addr} {odQO anQO:Option Addr} {slQO:Array (Option Value)} {ocQO kVQO dcQO pmQO cdQO ctQO:Value}
 {fQN:Addr} {odQN anQN:Option Addr} {slQN:Array (Option Value)} {ocQN kVQN dcQN pmQN cdQN ctQN:Value}
 {fQF:Addr} {odQF anQF:Option Addr} {slQF:Array (Option Value)} {ocQF kVQF dcQF pmQF cdQF ctQF:Value}
 {fQT:Addr} {odQT anQT:Option Addr} {slQT:Array (Option Value)} {ocQT kVQT dcQT pmQT cdQT ctQT:Value}
 {fQC:Addr} {odQC anQC:Option Addr} {slQC:Array (Option Value)} {ocQC kVQC dcQC pmQC cdQC ctQC:Value}
 {fRO:Addr} {odRO anRO:Option Addr} {slRO:Array (Option Value)} {ocRO kVRO dcRO pmRO cdRO ctRO:Value}
 {fQP:Addr} {odQP anQP:Option Addr} {slQP:Array (Option Value)} {ocQP kVQP dcQP pmQP cdQP ctQP:Value}
 {fQM:Addr} {odQM anQM:Option Addr} {slQM:Array (Option Value)} {ocQM kVQM dcQM pmQM cdQM ctQM:Value}
 {fSU:Addr} {odSU anSU:Option Addr} {slSU:Array (Option Value)} {ocSU kVSU dcSU pmSU cdSU ctSU:Value}
 {fSP:Addr} {odSP anSP:Option Addr} {slSP:Array (Option Value)} {ocSP kVSP dcSP pmSP cdSP ctSP:Value}
 {fST:Addr} {odST anST:Option Addr} {slST:Array (Option Value)} {ocST kVST dcST pmST cdST ctST:Value}
 {fQA:Addr} {odQA anQA:Option Addr} {slQA:Array (Option Value)} {ocQA kVQA dcQA pmQA cdQA ctQA:Value}
 {fQH:Addr} {odQH anQH:Option Addr} {slQH:Array (Option Value)} {ocQH kVQH dcQH pmQH cdQH ctQH:Value}
 {fQ1:Addr} {odQ1 anQ1:Option Addr} {slQ1:Array (Option Value)} {ocQ1 kVQ1 dcQ1 pmQ1 cdQ1 ctQ1:Value}
 {fQS:Addr} {odQS anQS:Option Addr} {slQS:Array (Option Value)} {ocQS kVQS dcQS pmQS cdQS ctQS:Value}
 {fQI:Addr} {odQI anQI:Option Addr} {slQI:Array (Option Value)} {ocQI kVQI dcQI pmQI cdQI ctQI:Value}
 {fRB:Addr} {odRB anRB:Option Addr} {slRB:Array (Option Value)} {ocRB kVRB dcRB pmRB cdRB ctRB:Value}
 {fRS:Addr} {odRS anRS:Option Addr} {slRS:Array (Option Value)} {ocRS kVRS dcRS pmRS cdRS ctRS:Value}
 {fTP:Addr} {odTP anTP:Option Addr} {slTP:Array (Option Value)} {ocTP kVTP dcTP pmTP cdTP ctTP:Value}
 {fDR:Addr} {odDR anDR:Option Addr} {slDR:Array (Option Value)} {ocDR kVDR dcDR pmDR cdDR ctDR:Value}
 {fNM:Addr} {odNM anNM:Option Addr} {slNM:Array (Option Value)} {ocNM kVNM dcNM pmNM cdNM ctNM:Value}
 {fWH:Addr} {odWH anWH:Option Addr} {slWH:Array (Option Value)} {ocWH kVWH dcWH pmWH cdWH ctWH:Value}
 {fTE:Addr} {odTE anTE:Option Addr} {slTE:Array (Option Value)} {ocTE kVTE dcTE pmTE cdTE ctTE:Value}
 {fFW:Addr} {odFW anFW:Option Addr} {slFW:Array (Option Value)} {ocFW kVFW dcFW pmFW cdFW ctFW:Value}
 {fPT:Addr} {odPT anPT:Option Addr} {slPT:Array (Option Value)} {ocPT kVPT dcPT pmPT cdPT ctPT:Value}
 {fSG:Addr} {odSG anSG:Option Addr} {slSG:Array (Option Value)} {ocSG kVSG dcSG pmSG cdSG ctSG:Value}
 {fTO:Addr} {odTO anTO:Option Addr} {slTO:Array (Option Value)} {ocTO kVTO dcTO pmTO cdTO ctTO:Value}
 {fPS:Addr} {odPS anPS:Option Addr} {slPS:Array (Option Value)} {ocPS kVPS dcPS pmPS cdPS ctPS:Value}
 {fAL:Addr} {odAL anAL:Option Addr} {slAL:Array (Option Value)} {ocAL kVAL dcAL pmAL cdAL ctAL:Value}
 {fRF:Addr} {odRF anRF:Option Addr} {slRF:Array (Option Value)} {ocRF kVRF dcRF pmRF cdRF ctRF:Value}
 {fAK:Addr} {odAK anAK:Option Addr} {slAK:Array (Option Value)} {ocAK kVAK dcAK pmAK cdAK ctAK:Value}
 {fLR:Addr} {odLR anLR:Option Addr} {slLR:Array (Option Value)} {ocLR kVLR dcLR pmLR cdLR ctLR:Value}
 {fDU:Addr} {odDU anDU:Option Addr} {slDU:Array (Option Value)} {ocDU kVDU dcDU pmDU cdDU ctDU:Value}
 {fSO:Addr} {odSO anSO:Option Addr} {slSO:Array (Option Value)} {ocSO kVSO dcSO pmSO cdSO ctSO:Value}
 {fGP:Addr} {odGP anGP:Option Addr} {slGP:Array (Option Value)} {ocGP kVGP dcGP pmGP cdGP ctGP:Value}
 {fRI:Addr} {odRI anRI:Option Addr} {slRI:Array (Option Value)} {ocRI kVRI dcRI pmRI cdRI ctRI:Value}
 {fLA:Addr} {odLA anLA:Option Addr} {slLA:Array (Option Value)} {ocLA kVLA dcLA pmLA cdLA ctLA:Value}
 {nm qn:Str} {Nn:Addr} {bs bm:List Value} {hdct:Bool} {sn:List Str} {sub:List Value} {ab:Bool} {col:Option Bool} {dd:Option Addr} {k0 k1 k2 k3 k5:Option Value}
 {Z:Addr} {dZ:Option Addr} {nZ:Nat} {sZ:Array (Option Value)} {t0 t1:Tok}
 {W S c1 c2 c3 c4 c5 c7 c8:Addr}
 {nmS qnS:Str} {NnS:Addr} {bsS bmS:List Value} {hdctS:Bool} {snS:List Str} {subS_:List Value} {abS:Bool} {colS:Option Bool} {ddS:Option Addr} {k0S k1S k2S k3S k5S:Option Value}
 {tk1 tk2:Tok}
 (aC:PySem.W.nsIn K mainGlobals "NoShare"=some (some (.ref C)))
 (iI:PySem.W.findIn K (.ref C) "__init__"=some (some (.ref fI)))
 (fnI:PySem.W.isFn K (.ref fI)=true)
 (lI:K.lookup fI=some ⟨ocI,odI, .func (PySem.W.fnOf "__init__" "WishError.__init__" (aF iK) (ay iK) (ah iK) .none kVI dcI pmI anI cdI ctI),slI⟩)
 (cI:PySem.W.codeIn K cdI "WishError.__init__"=true)
 (kI:PySem.W.keepIn K (.ref fI)=true)
 (aCD:PySem.W.nsIn K mainGlobals "common_divisor"=some (some (.ref fCD)))
 (lCD:K.lookup fCD=some ⟨ocCD,odCD, .func (PySem.W.fnOf "common_divisor" "common_divisor" (aF sCd) (ay sCd) (ah sCd) .none kVCD dcCD pmCD anCD cdCD ctCD),slCD⟩)
 (cCD:PySem.W.codeIn K cdCD "common_divisor"=true)
 (kCD:PySem.W.keepIn K (.ref fCD)=true)
 (aFR:PySem.W.nsIn K mainGlobals "fraction"=some (some (.ref fFR)))
 (lFR:K.lookup fFR=some ⟨ocFR,odFR, .func (PySem.W.fnOf "fraction" "fraction" (aF sFr) (ay sFr) (ah sFr) .none kVFR dcFR pmFR anFR cdFR ctFR),slFR⟩)
 (cFR:PySem.W.codeIn K cdFR "fraction"=true)
 (kFR:PySem.W.keepIn K (.ref fFR)=true)
 (aPL:PySem.W.nsIn K mainGlobals "plus"=some (some (.ref fPL)))
 (lPL:K.lookup fPL=some ⟨ocPL,odPL, .func (PySem.W.fnOf "plus" "plus" (aF jP) (ay jP) (ah jP) .none kVPL dcPL pmPL anPL cdPL ctPL),slPL⟩)
 (cPL:PySem.W.codeIn K cdPL "plus"=true)
 (kPL:PySem.W.keepIn K (.ref fPL)=true)
 (aMI:PySem.W.nsIn K mainGlobals "minus"=some (some (.ref fMI)))
 (lMI:K.lookup fMI=some ⟨ocMI,odMI, .func (PySem.W.fnOf "minus" "minus" (aF iy) (ay iy) (ah iy) .none kVMI dcMI pmMI anMI cdMI ctMI),slMI⟩)
 (cMI:PySem.W.codeIn K cdMI "minus"=true)
 (kMI:PySem.W.keepIn K (.ref fMI)=true)
 (aTX:PySem.W.nsIn K mainGlobals "times"=some (some (.ref fTX)))
 (lTX:K.lookup fTX=some ⟨ocTX,odTX, .func (PySem.W.fnOf "times" "times" (aF iq) (ay iq) (ah iq) .none kVTX dcTX pmTX anTX cdTX ctTX),slTX⟩)
 (cTX:PySem.W.codeIn K cdTX "times"=true)
 (kTX:PySem.W.keepIn K (.ref fTX)=true)
 (aPD:PySem.W.nsIn K mainGlobals "parted"=some (some (.ref fPD)))
 (lPD:K.lookup fPD=some ⟨ocPD,odPD, .func (PySem.W.fnOf "parted" "parted" (aF fQ) (ay fQ) (ah fQ) .none kVPD dcPD pmPD anPD cdPD ctPD),slPD⟩)
 (cPD:PySem.W.codeIn K cdPD "parted"=true)
 (kPD:PySem.W.keepIn K (.ref fPD)=true)
 (aCO:PySem.W.nsIn K mainGlobals "contrary"=some (some (.ref fCO)))
 (lCO:K.lookup fCO=some ⟨ocCO,odCO, .func (PySem.W.fnOf "contrary" "contrary" (aF iz) (ay iz) (ah iz) .none kVCO dcCO pmCO anCO cdCO ctCO),slCO⟩)
 (cCO:PySem.W.codeIn K cdCO "contrary"=true)
 (kCO:PySem.W.keepIn K (.ref fCO)=true)
 (aSI:PySem.W.nsIn K mainGlobals "sign_of"=some (some (.ref fSI)))
 (lSI:K.lookup fSI=some ⟨ocSI,odSI, .func (PySem.W.fnOf "sign_of" "sign_of" (aF jN) (ay jN) (ah jN) .none kVSI dcSI pmSI anSI cdSI ctSI),slSI⟩)
 (cSI:PySem.W.codeIn K cdSI "sign_of"=true)
 (kSI:PySem.W.keepIn K (.ref fSI)=true)
 (aQW:PySem.W.nsIn K mainGlobals "is_whole"=some (some (.ref fQW)))
 (lQW:K.lookup fQW=some ⟨ocQW,odQW, .func (PySem.W.fnOf "is_whole" "is_whole" (aF sIw) (ay sIw) (ah sIw) .none kVQW dcQW pmQW anQW cdQW ctQW),slQW⟩)
 (cQW:PySem.W.codeIn K cdQW "is_whole"=true)
 (kQW:PySem.W.keepIn K (.ref fQW)=true)
 (aQO:PySem.W.nsIn K mainGlobals "is_tuple_of"=some (some (.ref fQO)))
 (lQO:K.lookup fQO=some ⟨ocQO,odQO, .func (PySem.W.fnOf "is_tuple_of" "is_tuple_of" (aF sIto) (ay sIto) (ah sIto) .none kVQO dcQO pmQO anQO cdQO ctQO),slQO⟩)
 (cQO:PySem.W.codeIn K cdQO "is_tuple_of"=true)
 (kQO:PySem.W.keepIn K (.ref fQO)=true)
 (aQN:PySem.W.nsIn K mainGlobals "is_name"=some (some (.ref fQN)))
 (lQN:K.lookup fQN=some ⟨ocQN,odQN, .func (PySem.W.fnOf "is_name" "is_name" (aF sNmQ) (ay sNmQ) (ah sNmQ) .none kVQN dcQN pmQN anQN cdQN ctQN),slQN⟩)
 (cQN:PySem.W.codeIn K cdQN "is_name"=true)
 (kQN:PySem.W.keepIn K (.ref fQN)=true)
 (aQF:PySem.W.nsIn K mainGlobals "is_fraction"=some (some (.ref fQF)))
 (lQF:K.lookup fQF=some ⟨ocQF,odQF, .func (PySem.W.fnOf "is_fraction" "is_fraction" (aF sFrQ) (ay sFrQ) (ah sFrQ) .none kVQF dcQF pmQF anQF cdQF ctQF),slQF⟩)
 (cQF:PySem.W.codeIn K cdQF "is_fraction"=true)
 (kQF:PySem.W.keepIn K (.ref fQF)=true)
 (aQT:PySem.W.nsIn K mainGlobals "is_term"=some (some (.ref fQT)))
 (lQT:K.lookup fQT=some ⟨ocQT,odQT, .func (PySem.W.fnOf "is_term" "is_term" (aF sTmQ) (ay sTmQ) (ah sTmQ) .none kVQT dcQT pmQT anQT cdQT ctQT),slQT⟩)
 (cQT:PySem.W.codeIn K cdQT "is_term"=true)
 (kQT:PySem.W.keepIn K (.ref fQT)=true)
 (aQC:PySem.W.nsIn K mainGlobals "are_call_terms"=some (some (.ref fQC)))
 (lQC:K.lookup fQC=some ⟨ocQC,odQC, .func (PySem.W.fnOf "are_call_terms" "are_call_terms" (aF sCtQ) (ay sCtQ) (ah sCtQ) .none kVQC dcQC pmQC anQC cdQC ctQC),slQC⟩)
 (cQC:PySem.W.codeIn K cdQC "are_call_terms"=true)
 (kQC:PySem.W.keepIn K (.ref fQC)=true)
 (aRO:PySem.W.nsIn K mainGlobals "row_of"=some (some (.ref fRO)))
 (lRO:K.lookup fRO=some ⟨ocRO,odRO, .func (PySem.W.fnOf "row_of" "row_of" (aF sRow) (ay sRow) (ah sRow) .none kVRO dcRO pmRO anRO cdRO ctRO),slRO⟩)
 (cRO:PySem.W.codeIn K cdRO "row_of"=true)
 (kRO:PySem.W.keepIn K (.ref fRO)=true)
 (aQP:PySem.W.nsIn K mainGlobals "is_pair"=some (some (.ref fQP)))
 (lQP:K.lookup fQP=some ⟨ocQP,odQP, .func (PySem.W.fnOf "is_pair" "is_pair" (aF sPrQ) (ay sPrQ) (ah sPrQ) .none kVQP dcQP pmQP anQP cdQP ctQP),slQP⟩)
 (cQP:PySem.W.codeIn K cdQP "is_pair"=true)
 (kQP:PySem.W.keepIn K (.ref fQP)=true)
 (aQM:PySem.W.nsIn K mainGlobals "is_sum"=some (some (.ref fQM)))
 (lQM:K.lookup fQM=some ⟨ocQM,odQM, .func (PySem.W.fnOf "is_sum" "is_sum" (aF sSmQ) (ay sSmQ) (ah sSmQ) .none kVQM dcQM pmQM anQM cdQM ctQM),slQM⟩)
 (cQM:PySem.W.codeIn K cdQM "is_sum"=true)
 (kQM:PySem.W.keepIn K (.ref fQM)=true)
 (aSU:PySem.W.nsIn K mainGlobals "sum_of"=some (some (.ref fSU)))
 (lSU:K.lookup fSU=some ⟨ocSU,odSU, .func (PySem.W.fnOf "sum_of" "sum_of" (aF sSum) (ay sSum) (ah sSum) .none kVSU dcSU pmSU anSU cdSU ctSU),slSU⟩)
 (cSU:PySem.W.codeIn K cdSU "sum_of"=true)
 (kSU:PySem.W.keepIn K (.ref fSU)=true)
 (aSP:PySem.W.nsIn K mainGlobals "sum_plus"=some (some (.ref fSP)))
 (lSP:K.lookup fSP=some ⟨ocSP,odSP, .func (PySem.W.fnOf "sum_plus" "sum_plus" (aF ir) (ay ir) (ah ir) .none kVSP dcSP pmSP anSP cdSP ctSP),slSP⟩)
 (cSP:PySem.W.codeIn K cdSP "sum_plus"=true)
 (kSP:PySem.W.keepIn K (.ref fSP)=true)
 (aST:PySem.W.nsIn K mainGlobals "sum_times"=some (some (.ref fST)))
 (lST:K.lookup fST=some ⟨ocST,odST, .func (PySem.W.fnOf "sum_times" "sum_times" (aF fK) (ay fK) (ah fK) .none kVST dcST pmST anST cdST ctST),slST⟩)
 (cST:PySem.W.codeIn K cdST "sum_times"=true)
 (kST:PySem.W.keepIn K (.ref fST)=true)
 (aQA:PySem.W.nsIn K mainGlobals "is_atom"=some (some (.ref fQA)))
 (lQA:K.lookup fQA=some ⟨ocQA,odQA, .func (PySem.W.fnOf "is_atom" "is_atom" (aF sAtQ) (ay sAtQ) (ah sAtQ) .none kVQA dcQA pmQA anQA cdQA ctQA),slQA⟩)
 (cQA:PySem.W.codeIn K cdQA "is_atom"=true)
 (kQA:PySem.W.keepIn K (.ref fQA)=true)
 (aQH:PySem.W.nsIn K mainGlobals "is_wish"=some (some (.ref fQH)))
 (lQH:K.lookup fQH=some ⟨ocQH,odQH, .func (PySem.W.fnOf "is_wish" "is_wish" (aF sWsQ) (ay sWsQ) (ah sWsQ) .none kVQH dcQH pmQH anQH cdQH ctQH),slQH⟩)
 (cQH:PySem.W.codeIn K cdQH "is_wish"=true)
 (kQH:PySem.W.keepIn K (.ref fQH)=true)
 (aQ1:PySem.W.nsIn K mainGlobals "is_step_of_one"=some (some (.ref fQ1)))
 (lQ1:K.lookup fQ1=some ⟨ocQ1,odQ1, .func (PySem.W.fnOf "is_step_of_one" "is_step_of_one" (aF sSt1) (ay sSt1) (ah sSt1) .none kVQ1 dcQ1 pmQ1 anQ1 cdQ1 ctQ1),slQ1⟩)
 (cQ1:PySem.W.codeIn K cdQ1 "is_step_of_one"=true)
 (kQ1:PySem.W.keepIn K (.ref fQ1)=true)
 (aQS:PySem.W.nsIn K mainGlobals "is_step"=some (some (.ref fQS)))
 (lQS:K.lookup fQS=some ⟨ocQS,odQS, .func (PySem.W.fnOf "is_step" "is_step" (aF sStp) (ay sStp) (ah sStp) .none kVQS dcQS pmQS anQS cdQS ctQS),slQS⟩)
 (cQS:PySem.W.codeIn K cdQS "is_step"=true)
 (kQS:PySem.W.keepIn K (.ref fQS)=true)
 (aQI:PySem.W.nsIn K mainGlobals "is_part"=some (some (.ref fQI)))
 (lQI:K.lookup fQI=some ⟨ocQI,odQI, .func (PySem.W.fnOf "is_part" "is_part" (aF sPtQ) (ay sPtQ) (ah sPtQ) .none kVQI dcQI pmQI anQI cdQI ctQI),slQI⟩)
 (cQI:PySem.W.codeIn K cdQI "is_part"=true)
 (kQI:PySem.W.keepIn K (.ref fQI)=true)
 (aRB:PySem.W.nsIn K mainGlobals "row_by"=some (some (.ref fRB)))
 (lRB:K.lookup fRB=some ⟨ocRB,odRB, .func (PySem.W.fnOf "row_by" "row_by" (aF sRby) (ay sRby) (ah sRby) .none kVRB dcRB pmRB anRB cdRB ctRB),slRB⟩)
 (cRB:PySem.W.codeIn K cdRB "row_by"=true)
 (kRB:PySem.W.keepIn K (.ref fRB)=true)
 (aRS:PySem.W.nsIn K mainGlobals "row_of_sum"=some (some (.ref fRS)))
 (lRS:K.lookup fRS=some ⟨ocRS,odRS, .func (PySem.W.fnOf "row_of_sum" "row_of_sum" (aF sRoS) (ay sRoS) (ah sRoS) .none kVRS dcRS pmRS anRS cdRS ctRS),slRS⟩)
 (cRS:PySem.W.codeIn K cdRS "row_of_sum"=true)
 (kRS:PySem.W.keepIn K (.ref fRS)=true)
 (aTP:PySem.W.nsIn K mainGlobals "_law_tape"=some (some (.ref fTP)))
 (lTP:K.lookup fTP=some ⟨ocTP,odTP, .func (PySem.W.fnOf "_law_tape" "_law_tape" (aF jM) (ay jM) (ah jM) .none kVTP dcTP pmTP anTP cdTP ctTP),slTP⟩)
 (cTP:PySem.W.codeIn K cdTP "_law_tape"=true)
 (kTP:PySem.W.keepIn K (.ref fTP)=true)
 (aDR:PySem.W.nsIn K mainGlobals "_law_draw"=some (some (.ref fDR)))
 (lDR:K.lookup fDR=some ⟨ocDR,odDR, .func (PySem.W.fnOf "_law_draw" "_law_draw" (aF gZ) (ay gZ) (ah gZ) .none kVDR dcDR pmDR anDR cdDR ctDR),slDR⟩)
 (cDR:PySem.W.codeIn K cdDR "_law_draw"=true)
 (kDR:PySem.W.keepIn K (.ref fDR)=true)
 (aNM:PySem.W.nsIn K mainGlobals "_law_names"=some (some (.ref fNM)))
 (lNM:K.lookup fNM=some ⟨ocNM,odNM, .func (PySem.W.fnOf "_law_names" "_law_names" (aF ix) (ay ix) (ah ix) .none kVNM dcNM pmNM anNM cdNM ctNM),slNM⟩)
 (cNM:PySem.W.codeIn K cdNM "_law_names"=true)
 (kNM:PySem.W.keepIn K (.ref fNM)=true)
 (aWH:PySem.W.nsIn K mainGlobals "_law_whole"=some (some (.ref fWH)))
 (lWH:K.lookup fWH=some ⟨ocWH,odWH, .func (PySem.W.fnOf "_law_whole" "_law_whole" (aF ip) (ay ip) (ah ip) .none kVWH dcWH pmWH anWH cdWH ctWH),slWH⟩)
 (cWH:PySem.W.codeIn K cdWH "_law_whole"=true)
 (kWH:PySem.W.keepIn K (.ref fWH)=true)
 (aTE:PySem.W.nsIn K mainGlobals "_law_term"=some (some (.ref fTE)))
 (lTE:K.lookup fTE=some ⟨ocTE,odTE, .func (PySem.W.fnOf "_law_term" "_law_term" (aF jL) (ay jL) (ah jL) .none kVTE dcTE pmTE anTE cdTE ctTE),slTE⟩)
 (cTE:PySem.W.codeIn K cdTE "_law_term"=true)
 (kTE:PySem.W.keepIn K (.ref fTE)=true)
 (aFW:PySem.W.nsIn K mainGlobals "_law_few"=some (some (.ref fFW)))
 (lFW:K.lookup fFW=some ⟨ocFW,odFW, .func (PySem.W.fnOf "_law_few" "_law_few" (aF sFew) (ay sFew) (ah sFew) .none kVFW dcFW pmFW anFW cdFW ctFW),slFW⟩)
 (cFW:PySem.W.codeIn K cdFW "_law_few"=true)
 (kFW:PySem.W.keepIn K (.ref fFW)=true)
 (aPT:PySem.W.nsIn K mainGlobals "_law_part"=some (some (.ref fPT)))
 (lPT:K.lookup fPT=some ⟨ocPT,odPT, .func (PySem.W.fnOf "_law_part" "_law_part" (aF jQ) (ay jQ) (ah jQ) .none kVPT dcPT pmPT anPT cdPT ctPT),slPT⟩)
 (cPT:PySem.W.codeIn K cdPT "_law_part"=true)
 (kPT:PySem.W.keepIn K (.ref fPT)=true)
 (aSG:PySem.W.nsIn K mainGlobals "_law_signed"=some (some (.ref fSG)))
 (lSG:K.lookup fSG=some ⟨ocSG,odSG, .func (PySem.W.fnOf "_law_signed" "_law_signed" (aF fJ) (ay fJ) (ah fJ) .none kVSG dcSG pmSG anSG cdSG ctSG),slSG⟩)
 (cSG:PySem.W.codeIn K cdSG "_law_signed"=true)
 (kSG:PySem.W.keepIn K (.ref fSG)=true)
 (aTO:PySem.W.nsIn K mainGlobals "_law_totals"=some (some (.ref fTO)))
 (lTO:K.lookup fTO=some ⟨ocTO,odTO, .func (PySem.W.fnOf "_law_totals" "_law_totals" (aF fH) (ay fH) (ah fH) .none kVTO dcTO pmTO anTO cdTO ctTO),slTO⟩)
 (cTO:PySem.W.codeIn K cdTO "_law_totals"=true)
 (kTO:PySem.W.keepIn K (.ref fTO)=true)
 (aPS:PySem.W.nsIn K mainGlobals "_law_parts"=some (some (.ref fPS)))
 (lPS:K.lookup fPS=some ⟨ocPS,odPS, .func (PySem.W.fnOf "_law_parts" "_law_parts" (aF iw) (ay iw) (ah iw) .none kVPS dcPS pmPS anPS cdPS ctPS),slPS⟩)
 (cPS:PySem.W.codeIn K cdPS "_law_parts"=true)
 (kPS:PySem.W.keepIn K (.ref fPS)=true)
 (aAL:PySem.W.nsIn K mainGlobals "_law_alike"=some (some (.ref fAL)))
 (lAL:K.lookup fAL=some ⟨ocAL,odAL, .func (PySem.W.fnOf "_law_alike" "_law_alike" (aF iA) (ay iA) (ah iA) .none kVAL dcAL pmAL anAL cdAL ctAL),slAL⟩)
 (cAL:PySem.W.codeIn K cdAL "_law_alike"=true)
 (kAL:PySem.W.keepIn K (.ref fAL)=true)
 (aRF:PySem.W.nsIn K mainGlobals "_law_refusal"=some (some (.ref fRF)))
 (lRF:K.lookup fRF=some ⟨ocRF,odRF, .func (PySem.W.fnOf "_law_refusal" "_law_refusal" (aF jO) (ay jO) (ah jO) .none kVRF dcRF pmRF anRF cdRF ctRF),slRF⟩)
 (cRF:PySem.W.codeIn K cdRF "_law_refusal"=true)
 (kRF:PySem.W.keepIn K (.ref fRF)=true)
 (aAK:PySem.W.nsIn K mainGlobals "_law_asked"=some (some (.ref fAK)))
 (lAK:K.lookup fAK=some ⟨ocAK,odAK, .func (PySem.W.fnOf "_law_asked" "_law_asked" (aF sAsk) (ay sAsk) (ah sAsk) .none kVAK dcAK pmAK anAK cdAK ctAK),slAK⟩)
 (cAK:PySem.W.codeIn K cdAK "_law_asked"=true)
 (kAK:PySem.W.keepIn K (.ref fAK)=true)
 (aLR:PySem.W.nsIn K mainGlobals "_law_row"=some (some (.ref fLR)))
 (lLR:K.lookup fLR=some ⟨ocLR,odLR, .func (PySem.W.fnOf "_law_row" "_law_row" (aF jR) (ay jR) (ah jR) .none kVLR dcLR pmLR anLR cdLR ctLR),slLR⟩)
 (cLR:PySem.W.codeIn K cdLR "_law_row"=true)
 (kLR:PySem.W.keepIn K (.ref fLR)=true)
 (aDU:PySem.W.nsIn K mainGlobals "_law_due"=some (some (.ref fDU)))
 (lDU:K.lookup fDU=some ⟨ocDU,odDU, .func (PySem.W.fnOf "_law_due" "_law_due" (aF sDue) (ay sDue) (ah sDue) .none kVDU dcDU pmDU anDU cdDU ctDU),slDU⟩)
 (cDU:PySem.W.codeIn K cdDU "_law_due"=true)
 (kDU:PySem.W.keepIn K (.ref fDU)=true)
 (aSO:PySem.W.nsIn K mainGlobals "_law_spoiled"=some (some (.ref fSO)))
 (lSO:K.lookup fSO=some ⟨ocSO,odSO, .func (PySem.W.fnOf "_law_spoiled" "_law_spoiled" (aF sSpo) (ay sSpo) (ah sSpo) .none kVSO dcSO pmSO anSO cdSO ctSO),slSO⟩)
 (cSO:PySem.W.codeIn K cdSO "_law_spoiled"=true)
 (kSO:PySem.W.keepIn K (.ref fSO)=true)
 (aGP:PySem.W.nsIn K mainGlobals "_law_great_parts"=some (some (.ref fGP)))
 (lGP:K.lookup fGP=some ⟨ocGP,odGP, .func (PySem.W.fnOf "_law_great_parts" "_law_great_parts" (aF sGrP) (ay sGrP) (ah sGrP) .none kVGP dcGP pmGP anGP cdGP ctGP),slGP⟩)
 (cGP:PySem.W.codeIn K cdGP "_law_great_parts"=true)
 (kGP:PySem.W.keepIn K (.ref fGP)=true)
 (aRI:PySem.W.nsIn K mainGlobals "_law_right"=some (some (.ref fRI)))
 (lRI:K.lookup fRI=some ⟨ocRI,odRI, .func (PySem.W.fnOf "_law_right" "_law_right" (aF iu) (ay iu) (ah iu) .none kVRI dcRI pmRI anRI cdRI ctRI),slRI⟩)
 (cRI:PySem.W.codeIn K cdRI "_law_right"=true)
 (kRI:PySem.W.keepIn K (.ref fRI)=true)
 (aLA:PySem.W.nsIn K mainGlobals "law"=some (some (.ref fLA)))
 (lLA:K.lookup fLA=some ⟨ocLA,odLA, .func (PySem.W.fnOf "law" "law" (aF sLaw) (ay sLaw) (ah sLaw) .none kVLA dcLA pmLA anLA cdLA ctLA),slLA⟩)
 (cLA:PySem.W.codeIn K cdLA "law"=true)
 (kLA:PySem.W.keepIn K (.ref fLA)=true)
 (kC:PySem.W.keepIn K (.ref C)=true)
 (lC:K.lookup C=some (excClassObj nm qn C Nn bs bm hdct sn sub ab col dd k0 k1 k2 k3 k5 "ValueError.__new__"))
 (aZ:PySem.W.nsIn K mainGlobals "ZERO"=some (some (.ref Z)))
 (lZ:K.lookup Z=some ⟨.type "tuple",dZ, .seq #[.int 0 t0, .int 1 t1] nZ,sZ⟩)
 (aW:PySem.W.nsIn K mainGlobals "WishError"=some (some (.ref W)))
 (aS:PySem.W.nsIn K mainGlobals "NoStep"=some (some (.ref S)))
 (ac1:PySem.W.nsIn K mainGlobals "BadStep"=some (some (.ref c1)))
 (ac2:PySem.W.nsIn K mainGlobals "NoAnswer"=some (some (.ref c2)))
 (ac3:PySem.W.nsIn K mainGlobals "NoLevel"=some (some (.ref c3)))
 (ac4:PySem.W.nsIn K mainGlobals "NoLine"=some (some (.ref c4)))
 (ac5:PySem.W.nsIn K mainGlobals "NoPaper"=some (some (.ref c5)))
 (ac7:PySem.W.nsIn K mainGlobals "NoText"=some (some (.ref c7)))
 (ac8:PySem.W.nsIn K mainGlobals "NoWish"=some (some (.ref c8)))
 (iS:PySem.W.findIn K (.ref S) "__init__"=some (some (.ref fI)))
 (kS:PySem.W.keepIn K (.ref S)=true)
 (lS:K.lookup S=some (excClassObj nmS qnS S NnS bsS bmS hdctS snS subS_ abS colS ddS k0S k1S k2S k3S k5S "ValueError.__new__"))
 (dS:PySem.W.isClsIn K S=true)
 (gS:PySem.W.findIn K (.ref S) "__getattribute__"=some (some (.builtin "BaseException.__getattribute__")))
 (hSg:PySem.W.findIn K (.ref S) "__getattr__"=some none)
 (oS:PySem.W.findIn K (.ref S) "__class__"=some (some (.builtin "object.__class__")))
 (moS:PySem.W.mroIn K S (.type "object")=some true)
 (mbS:PySem.W.mroIn K S (.type "BaseException")=some true)
 (sW:PySem.W.subIn K (.ref W) (.type "BaseException")=some true)
 (dW:PySem.W.isClsIn K W=true)
 (tW:PySem.W.typeIn K (.ref W)=some (.type "type"))
 (sSW:PySem.W.subIn K (.ref S) (.ref W)=some true)
 (sSV:PySem.W.subIn K (.ref S) (.type "ValueError")=some true)
 (d1:PySem.W.isClsIn K c1=true)
 (ty1:PySem.W.typeIn K (.ref c1)=some (.type "type"))
 (s1:PySem.W.subIn K (.ref S) (.ref c1)=some false)
 (d2:PySem.W.isClsIn K c2=true)
 (ty2:PySem.W.typeIn K (.ref c2)=some (.type "type"))
 (s2:PySem.W.subIn K (.ref S) (.ref c2)=some false)
 (d3:PySem.W.isClsIn K c3=true)
 (ty3:PySem.W.typeIn K (.ref c3)=some (.type "type"))
 (s3:PySem.W.subIn K (.ref S) (.ref c3)=some false)
 (d4:PySem.W.isClsIn K c4=true)
 (ty4:PySem.W.typeIn K (.ref c4)=some (.type "type"))
 (s4:PySem.W.subIn K (.ref S) (.ref c4)=some false)
 (d5:PySem.W.isClsIn K c5=true)
 (ty5:PySem.W.typeIn K (.ref c5)=some (.type "type"))
 (s5:PySem.W.subIn K (.ref S) (.ref c5)=some false)
 (d6:PySem.W.isClsIn K C=true)
 (ty6:PySem.W.typeIn K (.ref C)=some (.type "type"))
 (s6:PySem.W.subIn K (.ref S) (.ref C)=some false)
 (d7:PySem.W.isClsIn K c7=true)
 (ty7:PySem.W.typeIn K (.ref c7)=some (.type "type"))
 (s7:PySem.W.subIn K (.ref S) (.ref c7)=some false)
 (d8:PySem.W.isClsIn K c8=true)
 (ty8:PySem.W.typeIn K (.ref c8)=some (.type "type"))
 (s8:PySem.W.subIn K (.ref S) (.ref c8)=some false)
 (aML:PySem.W.nsIn K mainGlobals "MOST_LETTERS"=some (some (.int 8 tk1)))
 (aMC:PySem.W.nsIn K mainGlobals "MOST_IN_CALL"=some (some (.int 3 tk2)))
 (z_set:PySem.W.nsIn K mainGlobals "set"=some none)
 (z_abs:PySem.W.nsIn K mainGlobals "abs"=some none)
 (z_len:PySem.W.nsIn K mainGlobals "len"=some none)
 (z_range:PySem.W.nsIn K mainGlobals "range"=some none)
 (z_isinstance:PySem.W.nsIn K mainGlobals "isinstance"=some none)
 (z_tuple:PySem.W.nsIn K mainGlobals "tuple"=some none)
 (z_int:PySem.W.nsIn K mainGlobals "int"=some none)
 (z_bool:PySem.W.nsIn K mainGlobals "bool"=some none)
 (z_list:PySem.W.nsIn K mainGlobals "list"=some none)
 (z_str:PySem.W.nsIn K mainGlobals "str"=some none)
 (z_all:PySem.W.nsIn K mainGlobals "all"=some none)
 (z_any:PySem.W.nsIn K mainGlobals "any"=some none)
 (z_zip:PySem.W.nsIn K mainGlobals "zip"=some none)
 (z_sorted:PySem.W.nsIn K mainGlobals "sorted"=some none)
 (z_ValueError:PySem.W.nsIn K mainGlobals "ValueError"=some none)
 (ln:Line "ValueError" bm)
 (lnS:Line "ValueError" bmS)
 (n1:(Value.ref S==Value.ref c1)=false)
 (n2:(Value.ref S==Value.ref c2)=false)
 (n3:(Value.ref S==Value.ref c3)=false)
 (n4:(Value.ref S==Value.ref c4)=false)
 (n5:(Value.ref S==Value.ref c5)=false)
 (n6:(Value.ref S==Value.ref C)=false)
 (n7:(Value.ref S==Value.ref c7)=false)
 (n8:(Value.ref S==Value.ref c8)=false):
 ∃fd:FuncData,(∀(s:Shared) (v:Value),BindsTo s fd ⟨[v],[]⟩ [("_law_script",v)])∧∀base:Heap,K.In base→base.Ns mainGlobals mg→FnOk l.prog w K mg base CX0 35 fa fd ["_law_script"] (oX K):=by
 have e:=hfa.symm.trans (PySem.W.mg_of X G aLA)
 cases e
 have B:Blt mg:=⟨PySem.W.mg_none_of X G z_abs,PySem.W.mg_none_of X G z_len,PySem.W.mg_none_of X G z_range,PySem.W.mg_none_of X G z_isinstance,PySem.W.mg_none_of X G z_tuple,PySem.W.mg_none_of X G z_int,PySem.W.mg_none_of X G z_bool,PySem.W.mg_none_of X G z_list,PySem.W.mg_none_of X G z_str,PySem.W.mg_none_of X G z_all,PySem.W.mg_none_of X G z_any,PySem.W.mg_none_of X G z_zip,PySem.W.mg_none_of X G z_sorted,PySem.W.mg_none_of X G z_ValueError⟩
 have FI:=aM (st:=iK) lI cI kI
 have bI:=FI.binds (ps:= ["self","words"]) fun _ _ _ _ _ _ us hl=>match us,hl with| [_,_],_=>rfl
 have FCD:=aM (st:=sCd) lCD cCD kCD
 have bCD:=FCD.binds (ps:= ["one","other"]) fun _ _ _ _ _ _ us hl=>by obtain ⟨_,_,rfl⟩:=ex2 us hl;rfl
 have mCD:=PySem.W.mg_of X G aCD
 have FFR:=aM (st:=sFr) lFR cFR kFR
 have bFR:=FFR.binds (ps:= ["top","bottom"]) fun _ _ _ _ _ _ us hl=>by obtain ⟨_,_,rfl⟩:=ex2 us hl;rfl
 have mFR:=PySem.W.mg_of X G aFR
 have FPL:=aM (st:=jP) lPL cPL kPL
 have bPL:=FPL.binds (ps:= ["one","other"]) fun _ _ _ _ _ _ us hl=>by obtain ⟨_,_,rfl⟩:=ex2 us hl;rfl
 have mPL:=PySem.W.mg_of X G aPL
 have FMI:=aM (st:=iy) lMI cMI kMI
 have bMI:=FMI.binds (ps:= ["one","other"]) fun _ _ _ _ _ _ us hl=>by obtain ⟨_,_,rfl⟩:=ex2 us hl;rfl
 have mMI:=PySem.W.mg_of X G aMI
 have FTX:=aM (st:=iq) lTX cTX kTX
 have bTX:=FTX.binds (ps:= ["one","other"]) fun _ _ _ _ _ _ us hl=>by obtain ⟨_,_,rfl⟩:=ex2 us hl;rfl
 have mTX:=PySem.W.mg_of X G aTX
 have FPD:=aM (st:=fQ) lPD cPD kPD
 have bPD:=FPD.binds (ps:= ["one","other"]) fun _ _ _ _ _ _ us hl=>by obtain ⟨_,_,rfl⟩:=ex2 us hl;rfl
 have mPD:=PySem.W.mg_of X G aPD
 have FCO:=aM (st:=iz) lCO cCO kCO
 have bCO:=FCO.binds (ps:= ["one"]) fun _ _ _ _ _ _ us hl=>by obtain ⟨_,rfl⟩:=ex1 us hl;rfl
 have mCO:=PySem.W.mg_of X G aCO
 have FSI:=aM (st:=jN) lSI cSI kSI
 have bSI:=FSI.binds (ps:= ["one"]) fun _ _ _ _ _ _ us hl=>by obtain ⟨_,rfl⟩:=ex1 us hl;rfl
 have mSI:=PySem.W.mg_of X G aSI
 have FQW:=aM (st:=sIw) lQW cQW kQW
 have bQW:=FQW.binds (ps:= ["thing"]) fun _ _ _ _ _ _ us hl=>by obtain ⟨_,rfl⟩:=ex1 us hl;rfl
 have mQW:=PySem.W.mg_of X G aQW
 have FQO:=aM (st:=sIto) lQO cQO kQO
 have bQO:=FQO.binds (ps:= ["thing","count"]) fun _ _ _ _ _ _ us hl=>by obtain ⟨_,_,rfl⟩:=ex2 us hl;rfl
 have mQO:=PySem.W.mg_of X G aQO
 have FQN:=aM (st:=sNmQ) lQN cQN kQN
 have bQN:=FQN.binds (ps:= ["thing"]) fun _ _ _ _ _ _ us hl=>by obtain ⟨_,rfl⟩:=ex1 us hl;rfl
 have mQN:=PySem.W.mg_of X G aQN
 have FQF:=aM (st:=sFrQ) lQF cQF kQF
 have bQF:=FQF.binds (ps:= ["thing"]) fun _ _ _ _ _ _ us hl=>by obtain ⟨_,rfl⟩:=ex1 us hl;rfl
 have mQF:=PySem.W.mg_of X G aQF
 have FQT:=aM (st:=sTmQ) lQT cQT kQT
 have bQT:=FQT.binds (ps:= ["thing"]) fun _ _ _ _ _ _ us hl=>by obtain ⟨_,rfl⟩:=ex1 us hl;rfl
 have mQT:=PySem.W.mg_of X G aQT
 have FQC:=aM (st:=sCtQ) lQC cQC kQC
 have bQC:=FQC.binds (ps:= ["thing"]) fun _ _ _ _ _ _ us hl=>by obtain ⟨_,rfl⟩:=ex1 us hl;rfl
 have mQC:=PySem.W.mg_of X G aQC
 have FRO:=aM (st:=sRow) lRO cRO kRO
 have bRO:=FRO.binds (ps:= ["literals"]) fun _ _ _ _ _ _ us hl=>by obtain ⟨_,rfl⟩:=ex1 us hl;rfl
 have mRO:=PySem.W.mg_of X G aRO
 have FQP:=aM (st:=sPrQ) lQP cQP kQP
 have bQP:=FQP.binds (ps:= ["thing"]) fun _ _ _ _ _ _ us hl=>by obtain ⟨_,rfl⟩:=ex1 us hl;rfl
 have mQP:=PySem.W.mg_of X G aQP
 have FQM:=aM (st:=sSmQ) lQM cQM kQM
 have bQM:=FQM.binds (ps:= ["thing"]) fun _ _ _ _ _ _ us hl=>by obtain ⟨_,rfl⟩:=ex1 us hl;rfl
 have mQM:=PySem.W.mg_of X G aQM
 have FSU:=aM (st:=sSum) lSU cSU kSU
 have bSU:=FSU.binds (ps:= ["pairs"]) fun _ _ _ _ _ _ us hl=>by obtain ⟨_,rfl⟩:=ex1 us hl;rfl
 have mSU:=PySem.W.mg_of X G aSU
 have FSP:=aM (st:=ir) lSP cSP kSP
 have bSP:=FSP.binds (ps:= ["one","other"]) fun _ _ _ _ _ _ us hl=>by obtain ⟨_,_,rfl⟩:=ex2 us hl;rfl
 have mSP:=PySem.W.mg_of X G aSP
 have FST:=aM (st:=fK) lST cST kST
 have bST:=FST.binds (ps:= ["one","many"]) fun _ _ _ _ _ _ us hl=>by obtain ⟨_,_,rfl⟩:=ex2 us hl;rfl
 have mST:=PySem.W.mg_of X G aST
 have FQA:=aM (st:=sAtQ) lQA cQA kQA
 have bQA:=FQA.binds (ps:= ["thing"]) fun _ _ _ _ _ _ us hl=>by obtain ⟨_,rfl⟩:=ex1 us hl;rfl
 have mQA:=PySem.W.mg_of X G aQA
 have FQH:=aM (st:=sWsQ) lQH cQH kQH
 have bQH:=FQH.binds (ps:= ["thing"]) fun _ _ _ _ _ _ us hl=>by obtain ⟨_,rfl⟩:=ex1 us hl;rfl
 have mQH:=PySem.W.mg_of X G aQH
 have FQ1:=aM (st:=sSt1) lQ1 cQ1 kQ1
 have bQ1:=FQ1.binds (ps:= ["kind","inner"]) fun _ _ _ _ _ _ us hl=>by obtain ⟨_,_,rfl⟩:=ex2 us hl;rfl
 have mQ1:=PySem.W.mg_of X G aQ1
 have FQS:=aM (st:=sStp) lQS cQS kQS
 have bQS:=FQS.binds (ps:= ["thing"]) fun _ _ _ _ _ _ us hl=>by obtain ⟨_,rfl⟩:=ex1 us hl;rfl
 have mQS:=PySem.W.mg_of X G aQS
 have FQI:=aM (st:=sPtQ) lQI cQI kQI
 have bQI:=FQI.binds (ps:= ["thing"]) fun _ _ _ _ _ _ us hl=>by obtain ⟨_,rfl⟩:=ex1 us hl;rfl
 have mQI:=PySem.W.mg_of X G aQI
 have FRB:=aM (st:=sRby) lRB cRB kRB
 have bRB:=FRB.binds (ps:= ["wishes","rows","step"]) fun _ _ _ _ _ _ us hl=>by obtain ⟨_,_,_,rfl⟩:=ex3 us hl;rfl
 have mRB:=PySem.W.mg_of X G aRB
 have FRS:=aM (st:=sRoS) lRS cRS kRS
 have bRS:=FRS.binds (ps:= ["parts"]) fun _ _ _ _ _ _ us hl=>by obtain ⟨_,rfl⟩:=ex1 us hl;rfl
 have mRS:=PySem.W.mg_of X G aRS
 have FTP:=aM (st:=jM) lTP cTP kTP
 have bTP:=FTP.binds (ps:= ["_law_script"]) fun _ _ _ _ _ _ us hl=>by obtain ⟨_,rfl⟩:=ex1 us hl;rfl
 have mTP:=PySem.W.mg_of X G aTP
 have FDR:=aM (st:=gZ) lDR cDR kDR
 have bDR:=FDR.binds (ps:= ["_law_tape_here","_law_many"]) fun _ _ _ _ _ _ us hl=>by obtain ⟨_,_,rfl⟩:=ex2 us hl;rfl
 have mDR:=PySem.W.mg_of X G aDR
 have FNM:=aM (st:=ix) lNM cNM kNM
 have bNM:=FNM.binds (ps:= ["_law_tape_here"]) fun _ _ _ _ _ _ us hl=>by obtain ⟨_,rfl⟩:=ex1 us hl;rfl
 have mNM:=PySem.W.mg_of X G aNM
 have FWH:=aM (st:=ip) lWH cWH kWH
 have bWH:=FWH.binds (ps:= ["_law_tape_here","_law_small","_law_great"]) fun _ _ _ _ _ _ us hl=>by obtain ⟨_,_,_,rfl⟩:=ex3 us hl;rfl
 have mWH:=PySem.W.mg_of X G aWH
 have FTE:=aM (st:=jL) lTE cTE kTE
 have bTE:=FTE.binds (ps:= ["_law_tape_here","_law_names_here","_law_deep"]) fun _ _ _ _ _ _ us hl=>by obtain ⟨_,_,_,rfl⟩:=ex3 us hl;rfl
 have mTE:=PySem.W.mg_of X G aTE
 have FFW:=aM (st:=sFew) lFW cFW kFW
 have bFW:=FFW.binds (ps:= ["_law_tape_here"]) fun _ _ _ _ _ _ us hl=>by obtain ⟨_,rfl⟩:=ex1 us hl;rfl
 have mFW:=PySem.W.mg_of X G aFW
 have FPT:=aM (st:=jQ) lPT cPT kPT
 have bPT:=FPT.binds (ps:= ["_law_tape_here","_law_names_here"]) fun _ _ _ _ _ _ us hl=>by obtain ⟨_,_,rfl⟩:=ex2 us hl;rfl
 have mPT:=PySem.W.mg_of X G aPT
 have FSG:=aM (st:=fJ) lSG cSG kSG
 have bSG:=FSG.binds (ps:= ["_law_part_here"]) fun _ _ _ _ _ _ us hl=>by obtain ⟨_,rfl⟩:=ex1 us hl;rfl
 have mSG:=PySem.W.mg_of X G aSG
 have FTO:=aM (st:=fH) lTO cTO kTO
 have bTO:=FTO.binds (ps:= ["_law_parts_here"]) fun _ _ _ _ _ _ us hl=>by obtain ⟨_,rfl⟩:=ex1 us hl;rfl
 have mTO:=PySem.W.mg_of X G aTO
 have FPS:=aM (st:=iw) lPS cPS kPS
 have bPS:=FPS.binds (ps:= ["_law_tape_here","_law_names_here"]) fun _ _ _ _ _ _ us hl=>by obtain ⟨_,_,rfl⟩:=ex2 us hl;rfl
 have mPS:=PySem.W.mg_of X G aPS
 have FAL:=aM (st:=iA) lAL cAL kAL
 have bAL:=FAL.binds (ps:= ["_law_found","_law_due_here"]) fun _ _ _ _ _ _ us hl=>by obtain ⟨_,_,rfl⟩:=ex2 us hl;rfl
 have mAL:=PySem.W.mg_of X G aAL
 have FRF:=aM (st:=jO) lRF cRF kRF
 have bRF:=FRF.binds (ps:= ["_law_e"]) fun _ _ _ _ _ _ us hl=>by obtain ⟨_,rfl⟩:=ex1 us hl;rfl
 have mRF:=PySem.W.mg_of X G aRF
 have FAK:=aM (st:=sAsk) lAK cAK kAK
 have bAK:=FAK.binds (ps:= ["_law_wishes","_law_rows","_law_step"]) fun _ _ _ _ _ _ us hl=>by obtain ⟨_,_,_,rfl⟩:=ex3 us hl;rfl
 have mAK:=PySem.W.mg_of X G aAK
 have FLR:=aM (st:=jR) lLR cLR kLR
 have bLR:=FLR.binds (ps:= ["_law_literals"]) fun _ _ _ _ _ _ us hl=>by obtain ⟨_,rfl⟩:=ex1 us hl;rfl
 have mLR:=PySem.W.mg_of X G aLR
 have FDU:=aM (st:=sDue) lDU cDU kDU
 have bDU:=FDU.binds (ps:= ["_law_parts_here"]) fun _ _ _ _ _ _ us hl=>by obtain ⟨_,rfl⟩:=ex1 us hl;rfl
 have mDU:=PySem.W.mg_of X G aDU
 have FSO:=aM (st:=sSpo) lSO cSO kSO
 have bSO:=FSO.binds (ps:= ["_law_tape_here","_law_parts_here","_law_names_here"]) fun _ _ _ _ _ _ us hl=>by obtain ⟨_,_,_,rfl⟩:=ex3 us hl;rfl
 have mSO:=PySem.W.mg_of X G aSO
 have FGP:=aM (st:=sGrP) lGP cGP kGP
 have bGP:=FGP.binds (ps:= ["_law_tape_here","_law_names_here"]) fun _ _ _ _ _ _ us hl=>by obtain ⟨_,_,rfl⟩:=ex2 us hl;rfl
 have mGP:=PySem.W.mg_of X G aGP
 have FRI:=aM (st:=iu) lRI cRI kRI
 have bRI:=FRI.binds (ps:= ["_law_parts_here"]) fun _ _ _ _ _ _ us hl=>by obtain ⟨_,rfl⟩:=ex1 us hl;rfl
 have mRI:=PySem.W.mg_of X G aRI
 have FLA:=aM (st:=sLaw) lLA cLA kLA
 have mX:=PySem.W.mg_of X G aC
 have mZ:=PySem.W.mg_of X G aZ
 have hX:∀H:Hp,Dj.SqX K H Z [.int 0, .int 1]:=fun H=> .inr ⟨_,_,_,lZ,rfl,rfl,(by show 2≤sizeLine;decide), .cons ⟨t0,rfl⟩ (.cons ⟨t1,rfl⟩ .nil)⟩
 have hZ:∀H:Hp,SqT K H Z [.int 0, .int 1]:=fun H=>(hX H).sq
 have XC:XCls K C fI:=⟨⟨_,_,_,_,_,_,_,_,_,_,_,_,_,_,_,_,lC,ln⟩,iI,fnI,kC⟩
 refine ⟨PySem.W.fnOf "law" "law" (aF sLaw) (ay sLaw) (ah sLaw) .none kVLA dcLA pmLA anLA cdLA ctLA,fun s v=> .of_eq rfl,fun base _ _=> ?_⟩
 have gFR:FnOk l.prog w K mg base (CX1 l.prog w) 3 fFR _ ["top","bottom"] (spFr C):=yK FFR FCD bCD mCD FI bI mX XC B
 have gPL:FnOk l.prog w K mg base CX0 2 fPL _ ["one","other"] (eZ K):=vq FPL FCD bCD mCD B
 have gDR:FnOk l.prog w K mg base CX0 1 fDR _ ["_law_tape_here","_law_many"] eD:=iZ FDR B
 have gWH:FnOk l.prog w K mg base CX0 2 fWH _ ["_law_tape_here","_law_small","_law_great"] spWh:=yy FWH B FDR bDR mDR
 have gTE:∀n,FnOk l.prog w K mg base CX0 (n+1) fTE _ ["_law_tape_here","_law_names_here","_law_deep"] (j9 n):=vk FTE bTE mTE B FDR bDR mDR
 have hxm:PySem.W.exmOne K (.ref S) (.ref W)=some true:=by
  unfold PySem.W.exmOne PySem.W.kitCls
  dsimp only
  rw [sW,show (PySem.W.clsIn K W).isSome=true from dW,tW,sSW]
  rfl
 have hve:PySem.W.kitOne K (.ref S) (.type "ValueError")=some true:=by
  unfold PySem.W.kitOne PySem.W.kitCls
  rw [if_neg (by simp)]
  dsimp only
  rw [if_pos (by decide +kernel),sSV]
 have one:∀(Ci:Addr),(Value.ref S==Value.ref Ci)=false→PySem.W.isClsIn K Ci=true→PySem.W.typeIn K (.ref Ci)=some (.type "type")→PySem.W.subIn K (.ref S) (.ref Ci)=some false→PySem.W.kitOne K (.ref S) (.ref Ci)=some false:=by
  intro Ci e1 e2 e3 e4
  unfold PySem.W.kitOne PySem.W.kitCls
  dsimp only
  rw [e1,show (PySem.W.clsIn K Ci).isSome=true from e2,e3,e4]
  rfl
 have hno:PySem.W.kitAny K (.ref S) [.ref c1, .ref c2, .ref c3, .ref c4, .ref c5, .ref C, .ref c7, .ref c8]=some false:=by
  unfold PySem.W.kitAny
  try dsimp only
  rw [one c1 n1 d1 ty1 s1]
  unfold PySem.W.kitAny
  try dsimp only
  rw [one c2 n2 d2 ty2 s2]
  unfold PySem.W.kitAny
  try dsimp only
  rw [one c3 n3 d3 ty3 s3]
  unfold PySem.W.kitAny
  try dsimp only
  rw [one c4 n4 d4 ty4 s4]
  unfold PySem.W.kitAny
  try dsimp only
  rw [one c5 n5 d5 ty5 s5]
  unfold PySem.W.kitAny
  try dsimp only
  rw [one C n6 d6 ty6 s6]
  unfold PySem.W.kitAny
  try dsimp only
  rw [one c7 n7 d7 ty7 s7]
  unfold PySem.W.kitAny
  try dsimp only
  rw [one c8 n8 d8 ty8 s8]
  rfl
 have XS:XCls K S fI:=⟨⟨_,_,_,_,_,_,_,_,_,_,_,_,_,_,_,_,lS,lnS⟩,iS,fnI,kS⟩
 have XI:XIs K S:=⟨dS,gS,hSg,oS,moS,mbS⟩
 have mS:=PySem.W.mg_of X G aS
 have LC:Cl K mg W S c1 c2 c3 c4 c5 C c7 c8 fI:=⟨PySem.W.mg_of X G aW,mS,PySem.W.mg_of X G ac1,PySem.W.mg_of X G ac2,PySem.W.mg_of X G ac3,PySem.W.mg_of X G ac4,PySem.W.mg_of X G ac5,mX,PySem.W.mg_of X G ac7,PySem.W.mg_of X G ac8,XS,XI,hxm,hve,hno⟩
 have GI:FnOk l.prog w K mg base CX0 1 fI _ ["self","words"] (fg K):=lb FI B
 have gTX:FnOk l.prog w K mg base CX0 2 fTX _ ["one","other"] (de K):=sU FTX FCD bCD mCD B
 have gCO:FnOk l.prog w K mg base CX0 1 fCO _ ["one"] iW:=tD FCO
 have gSI:FnOk l.prog w K mg base CX0 1 fSI _ ["one"] (kz K):=vo FSI
 have gSW:FnOk l.prog w K mg base CX0 3 fSU _ ["pairs"] ky:=vn FSU B gPL kPL bPL mPL mZ hZ
 have gSU:FnOk l.prog w K mg base CX0 3 fSU _ ["pairs"] ik:=gSW.imp fun _ _ _ _ h=>uT h
 have gSP:FnOk l.prog w K mg base CX0 4 fSP _ ["one","other"] iV:=sV FSP B gSW kSU bSU mSU
 have gST:FnOk l.prog w K mg base CX0 4 fST _ ["one","many"] gY:=qw FST gSU kSU bSU mSU gTX kTX bTX mTX
 have gMI:FnOk l.prog w K mg base CX0 3 fMI _ ["one","other"] kJ:=tw FMI gPL kPL bPL mPL gCO kCO bCO mCO
 have gPD:FnOk l.prog w K mg base (CX1 l.prog w) 4 fPD _ ["one","other"] (ja C):=qy FPD gTX kTX bTX mTX gFR kFR bFR mFR FI bI mX XC mZ hZ B
 have gFW:FnOk l.prog w K mg base CX0 4 fFW _ ["_law_tape_here"] rR:=xB FFW gWH kWH bWH mWH gFR kFR bFR mFR
 have gPT:FnOk l.prog w K mg base CX0 5 fPT _ ["_law_tape_here","_law_names_here"] nU:=vt FPT B (gTE 2) kTE bTE mTE gFW kFW bFW mFW gSU kSU bSU mSU gDR kDR bDR mDR gWH kWH bWH mWH gFR kFR bFR mFR
 have gSG:FnOk l.prog w K mg base CX0 3 fSG _ ["_law_part_here"] gQ:=qx FSG gTX kTX bTX mTX
 have gTO:FnOk l.prog w K mg base CX0 5 fTO _ ["_law_parts_here"] gK:=qv FTO gSP kSP bSP mSP gST kST bST mST gSG kSG bSG mSG gPL kPL bPL mPL gTX kTX bTX mTX
 have gPS:FnOk l.prog w K mg base CX0 6 fPS _ ["_law_tape_here","_law_names_here"] kH:=sX FPS B gPT kPT bPT mPT gTO kTO bTO mTO gSG kSG bSG mSG gDR kDR bDR mDR gST kST bST mST gMI kMI bMI mMI gTX kTX bTX mTX gPD kPD bPD mPD
 have gQO:FnOk l.prog w K mg base CX0 1 fQO _ ["thing","count"] spTo:=yB FQO B
 have gQN:FnOk l.prog w K mg base CX0 1 fQN _ ["thing"] spNq:=yG FQN B (PySem.W.mg_of X G aML)
 have gQT:FnOk l.prog w K mg base CX0 17 fQT _ ["thing"] (spTq 8):=yA FQT bQT mQT FQC B (PySem.W.mg_of X G aMC) gQO kQO bQO mQO gQN kQN bQN mQN bQC mQC 8
 have gQW:FnOk l.prog w K mg base CX0 1 fQW _ ["thing"] spIw:=yH FQW B
 have gQF:FnOk l.prog w K mg base CX0 4 fQF _ ["thing"] spFq:=yL FQF gQO kQO bQO mQO gQW kQW bQW mQW gFR kFR bFR mFR
 have gQP:FnOk l.prog w K mg base CX0 18 fQP _ ["thing"] spPr:=yF FQP gQO kQO bQO mQO gQT kQT bQT mQT gQF kQF bQF mQF mZ hZ
 have gQM:FnOk l.prog w K mg base CX0 19 fQM _ ["thing"] spSq:=yC FQM B gQP kQP bQP mQP
 have gQA:FnOk l.prog w K mg base CX0 20 fQA _ ["thing"] spAq:=yN FQA gQO kQO bQO mQO gQM kQM bQM mQM gQF kQF bQF mQF
 have gQH:FnOk l.prog w K mg base CX0 21 fQH _ ["thing"] spAq:=yx FQH gQO kQO bQO mQO gQA kQA bQA mQA
 have gQI:FnOk l.prog w K mg base CX0 22 fQI _ ["thing"] spIp:=yI FQI B gQO kQO bQO mQO gQH kQH bQH mQH gQF kQF bQF mQF gSI kSI bSI mSI
 have gQ1:FnOk l.prog w K mg base CX0 23 fQ1 _ ["kind","inner"] sp1:=ok_1 FQ1 B gQI kQI bQI mQI
 have gQS:FnOk l.prog w K mg base CX0 24 fQS _ ["thing"] rN:=xw FQS gQO kQO bQO mQO gQ1 kQ1 bQ1 mQ1
 have gRO:FnOk l.prog w K mg base CX0 1 fRO _ ["literals"] im:=sj (xy FRO B)
 have gRS:FnOk l.prog w K mg base (CX1 l.prog w) 4 fRS _ ["parts"] (rP S):=xz FRS B GI bI mS XS mZ hZ gCO kCO bCO mCO gTX kTX bTX mTX gPL kPL bPL mPL gSU kSU bSU mSU gSI kSI bSI mSI gRO kRO bRO mRO
 have gRB:FnOk l.prog w K mg base (CX1 l.prog w) 25 fRB _ ["wishes","rows","step"] (spRb S):=yE FRB GI bI mS XS gQS kQS bQS mQS gRS kRS bRS mRS
 have gAK:FnOk l.prog w K mg base CX0 26 fAK _ ["_law_wishes","_law_rows","_law_step"] rT:=xD FAK LC gRB kRB bRB mRB (vp FRF B LC) kRF bRF mRF
 have gLR:FnOk l.prog w K mg base CX0 1 fLR _ ["_law_literals"] im:=vv FLR B
 have gDU:FnOk l.prog w K mg base CX0 6 fDU _ ["_law_parts_here"] rS:=xC FDU B (PySem.W.mg_none_of X G z_set) gTO kTO bTO mTO gLR kLR bLR mLR
 have gRI:FnOk l.prog w K mg base CX0 34 fRI _ ["_law_parts_here"] spRi:=yD FRI gAK kAK bAK mAK gDU kDU bDU mDU (yO FAL bAL mAL B 32) kAL bAL mAL
 have gSO:FnOk l.prog w K mg base CX0 5 fSO _ ["_law_tape_here","_law_parts_here","_law_names_here"] rO:=xx FSO B gDR kDR bDR mDR gTX kTX bTX mTX gPL kPL bPL mPL gSP kSP bSP mSP (gTE 2) kTE bTE mTE
 have gGP:FnOk l.prog w K mg base CX0 4 fGP _ ["_law_tape_here","_law_names_here"] spGp:=yJ FGP B gDR kDR bDR mDR gFR kFR bFR mFR gSU kSU bSU mSU (gTE 2) kTE bTE mTE gPL kPL bPL mPL
 exact xA FLA B (vm FTP B) kTP bTP mTP (sY FNM B FDR bDR mDR) kNM bNM mNM gDR kDR bDR mDR gPS kPS bPS mPS gGP kGP bGP mGP gSO kSO bSO mSO gRI kRI bRI mRI
theorem walk {l:PySem.W.OpenLaw} {q:Program} {loose:List Str} {XP:(Str→Option Value)→Heap→Prop} {YP:World→Heap→Prop} {d:DefRec} {K:Params→PySem.W.Frag} (hn:l.most=some 63) (hdf:d.params.defaults= [])
 (hY:∀(w:World) (h:Heap),YP w h→(K w.params).In h)
 (F:∀(w:World) (mg:Str→Option Value) (fa:Addr) (h:Heap),(K w.params).In h→h.Ns mainGlobals mg→mg d.name=some (.ref fa)→
  ∃fd:FuncData,(∀(s:Shared) (u:Value),BindsTo s fd ⟨[u],[]⟩ [("_law_script",u)])∧∀base:Heap,(K w.params).In base→base.Ns mainGlobals mg→FnOk l.prog w (K w.params) mg base CX0 35 fa fd ["_law_script"] (oX (K w.params))):
 PySem.W.WalkO q loose XP YP l.row.toRowW d [] (fun f vs=>PySem.call f vs):=
 L2.walk_of (n:=63) (k:=35) (x:="_law_script") (CX:=fun _=>CX0) (sp:=fun w=>oX (K w.params)) hn (by decide) hdf ⟨rfl,by decide,by decide,rfl⟩ hY F (fun _ _ a ns hl _ hS=>⟨a,ns,rfl,hS,hl,fun _=>rfl⟩) fun _ _ _ _ _ z=>z
end K25
def PySem.W.Fast.tw14545038741548192596:Unit:=()
def PySem.W.Fast.tw17583246602311840588:Unit:=()
def PySem.W.Fast.tw5625832451761544408:Unit:=()
def PySem.W.Fast.tw1426698550919335377:Unit:=()
def PySem.W.Fast.tw10362719403215102148:Unit:=()
def PySem.W.Fast.tw7852040326522956593:Unit:=()
def PySem.W.Fast.tw8439035642941571911:Unit:=()
def PySem.W.Fast.tw7077717320491794201:Unit:=()
def PySem.W.Fast.tw1833617990852618192:Unit:=()
def PySem.W.Fast.tw9766252994652884339:Unit:=()
def PySem.W.Fast.tw6667283158674587149:Unit:=()
def PySem.W.Fast.tw7826383812652585344:Unit:=()
def PySem.W.Fast.tw9104581915738295571:Unit:=()
def PySem.W.Fast.tw1927829971984520169:Unit:=()
def PySem.W.Fast.tw3022908291892037756:Unit:=()
def PySem.W.Fast.tw4257112880716110355:Unit:=()
def PySem.W.Fast.tw10694178052865509577:Unit:=()
def PySem.W.Fast.tw2489291629099476785:Unit:=()
def PySem.W.Fast.tw640568297325406646:Unit:=()
def PySem.W.Fast.tw9620207552932167876:Unit:=()
def PySem.W.Fast.tw7480756028404288612:Unit:=()
def PySem.W.Fast.tw2506965776735703342:Unit:=()
def PySem.W.Fast.tw414829825682006431:Unit:=()
def PySem.W.Fast.tw17536125028133069136:Unit:=()
def PySem.W.Fast.tw14913774990302429978:Unit:=()
def PySem.W.Fast.tw9828783376162131586:Unit:=()
def PySem.W.Fast.tw2506636514380188569:Unit:=()
def PySem.W.Fast.tw14410367040508708502:Unit:=()
def PySem.W.Fast.tw9201061950102328383:Unit:=()
def PySem.W.Fast.tw6546533336701745055:Unit:=()
def PySem.W.Fast.tw10308380254502990502:Unit:=()
def PySem.W.Fast.tw11827607387426124851:Unit:=()
def PySem.W.Fast.tw14212879330451039485:Unit:=()
def PySem.W.Fast.tw7488862727242155797:Unit:=()
def PySem.W.Fast.tw16724412214723630722:Unit:=()
def PySem.W.Fast.tw14499136029630436914:Unit:=()
open PySem PySem.W PyProof.Rows
set_option maxRecDepth 100000 in
set_option maxHeartbeats 0 in
theorem PySem.Challenge.cw_smallword_k25_sum_steps_holds : PySem.Challenge.rw_smallword_k25_sum_steps.Holds := by
  w_on; o_law; k_head; (case hw => w_witness2)
  k_fill
  refine K25.walk (l := PySem.Challenge.rw_smallword_k25_sum_steps) rfl rfl (fun w h Y => PySem.W.kIn_of Y) ?F
  case F =>
    intro w mg fa h KX G hmg
    refine' K25.all_mk KX G hmg ?aC ?iI ?fnI ?lI ?cI ?kI ?aCD ?lCD ?cCD ?kCD ?aFR ?lFR ?cFR ?kFR ?aPL ?lPL ?cPL ?kPL ?aMI ?lMI ?cMI ?kMI ?aTX ?lTX ?cTX ?kTX ?aPD ?lPD ?cPD ?kPD ?aCO ?lCO ?cCO ?kCO ?aSI ?lSI ?cSI ?kSI ?aQW ?lQW ?cQW ?kQW ?aQO ?lQO ?cQO ?kQO ?aQN ?lQN ?cQN ?kQN ?aQF ?lQF ?cQF ?kQF ?aQT ?lQT ?cQT ?kQT ?aQC ?lQC ?cQC ?kQC ?aRO ?lRO ?cRO ?kRO ?aQP ?lQP ?cQP ?kQP ?aQM ?lQM ?cQM ?kQM ?aSU ?lSU ?cSU ?kSU ?aSP ?lSP ?cSP ?kSP ?aST ?lST ?cST ?kST ?aQA ?lQA ?cQA ?kQA ?aQH ?lQH ?cQH ?kQH ?aQ1 ?lQ1 ?cQ1 ?kQ1 ?aQS ?lQS ?cQS ?kQS ?aQI ?lQI ?cQI ?kQI ?aRB ?lRB ?cRB ?kRB ?aRS ?lRS ?cRS ?kRS ?aTP ?lTP ?cTP ?kTP ?aDR ?lDR ?cDR ?kDR ?aNM ?lNM ?cNM ?kNM ?aWH ?lWH ?cWH ?kWH ?aTE ?lTE ?cTE ?kTE ?aFW ?lFW ?cFW ?kFW ?aPT ?lPT ?cPT ?kPT ?aSG ?lSG ?cSG ?kSG ?aTO ?lTO ?cTO ?kTO ?aPS ?lPS ?cPS ?kPS ?aAL ?lAL ?cAL ?kAL ?aRF ?lRF ?cRF ?kRF ?aAK ?lAK ?cAK ?kAK ?aLR ?lLR ?cLR ?kLR ?aDU ?lDU ?cDU ?kDU ?aSO ?lSO ?cSO ?kSO ?aGP ?lGP ?cGP ?kGP ?aRI ?lRI ?cRI ?kRI ?aLA ?lLA ?cLA ?kLA ?kC ?lC ?aZ ?lZ ?aW ?aS ?ac1 ?ac2 ?ac3 ?ac4 ?ac5 ?ac7 ?ac8 ?iS ?kS ?lS ?dS ?gS ?hSg ?oS ?moS ?mbS ?sW ?dW ?tW ?sSW ?sSV ?d1 ?ty1 ?s1 ?d2 ?ty2 ?s2 ?d3 ?ty3 ?s3 ?d4 ?ty4 ?s4 ?d5 ?ty5 ?s5 ?d6 ?ty6 ?s6 ?d7 ?ty7 ?s7 ?d8 ?ty8 ?s8 ?aML ?aMC ?z_set ?z_abs ?z_len ?z_range ?z_isinstance ?z_tuple ?z_int ?z_bool ?z_list ?z_str ?z_all ?z_any ?z_zip ?z_sorted ?z_ValueError ?ln ?lnS ?n1 ?n2 ?n3 ?n4 ?n5 ?n6 ?n7 ?n8
    (case aC => k_is); (case iI => k_is); (case fnI => k_is); (case lI => k_is); (case cI => k_is); (case kI => k_is); (case aCD => k_is); (case lCD => k_is)
    (case cCD => k_is); (case kCD => k_is); (case aFR => k_is); (case lFR => k_is); (case cFR => k_is); (case kFR => k_is); (case aPL => k_is); (case lPL => k_is)
    (case cPL => k_is); (case kPL => k_is); (case aMI => k_is); (case lMI => k_is); (case cMI => k_is); (case kMI => k_is); (case aTX => k_is); (case lTX => k_is)
    (case cTX => k_is); (case kTX => k_is); (case aPD => k_is); (case lPD => k_is); (case cPD => k_is); (case kPD => k_is); (case aCO => k_is); (case lCO => k_is)
    (case cCO => k_is); (case kCO => k_is); (case aSI => k_is); (case lSI => k_is); (case cSI => k_is); (case kSI => k_is); (case aQW => k_is); (case lQW => k_is)
    (case cQW => k_is); (case kQW => k_is); (case aQO => k_is); (case lQO => k_is); (case cQO => k_is); (case kQO => k_is); (case aQN => k_is); (case lQN => k_is)
    (case cQN => k_is); (case kQN => k_is); (case aQF => k_is); (case lQF => k_is); (case cQF => k_is); (case kQF => k_is); (case aQT => k_is); (case lQT => k_is)
    (case cQT => k_is); (case kQT => k_is); (case aQC => k_is); (case lQC => k_is); (case cQC => k_is); (case kQC => k_is); (case aRO => k_is); (case lRO => k_is)
    (case cRO => k_is); (case kRO => k_is); (case aQP => k_is); (case lQP => k_is); (case cQP => k_is); (case kQP => k_is); (case aQM => k_is); (case lQM => k_is)
    (case cQM => k_is); (case kQM => k_is); (case aSU => k_is); (case lSU => k_is); (case cSU => k_is); (case kSU => k_is); (case aSP => k_is); (case lSP => k_is)
    (case cSP => k_is); (case kSP => k_is); (case aST => k_is); (case lST => k_is); (case cST => k_is); (case kST => k_is); (case aQA => k_is); (case lQA => k_is)
    (case cQA => k_is); (case kQA => k_is); (case aQH => k_is); (case lQH => k_is); (case cQH => k_is); (case kQH => k_is); (case aQ1 => k_is); (case lQ1 => k_is)
    (case cQ1 => k_is); (case kQ1 => k_is); (case aQS => k_is); (case lQS => k_is); (case cQS => k_is); (case kQS => k_is); (case aQI => k_is); (case lQI => k_is)
    (case cQI => k_is); (case kQI => k_is); (case aRB => k_is); (case lRB => k_is); (case cRB => k_is); (case kRB => k_is); (case aRS => k_is); (case lRS => k_is)
    (case cRS => k_is); (case kRS => k_is); (case aTP => k_is); (case lTP => k_is); (case cTP => k_is); (case kTP => k_is); (case aDR => k_is); (case lDR => k_is)
    (case cDR => k_is); (case kDR => k_is); (case aNM => k_is); (case lNM => k_is); (case cNM => k_is); (case kNM => k_is); (case aWH => k_is); (case lWH => k_is)
    (case cWH => k_is); (case kWH => k_is); (case aTE => k_is); (case lTE => k_is); (case cTE => k_is); (case kTE => k_is); (case aFW => k_is); (case lFW => k_is)
    (case cFW => k_is); (case kFW => k_is); (case aPT => k_is); (case lPT => k_is); (case cPT => k_is); (case kPT => k_is); (case aSG => k_is); (case lSG => k_is)
    (case cSG => k_is); (case kSG => k_is); (case aTO => k_is); (case lTO => k_is); (case cTO => k_is); (case kTO => k_is); (case aPS => k_is); (case lPS => k_is)
    (case cPS => k_is); (case kPS => k_is); (case aAL => k_is); (case lAL => k_is); (case cAL => k_is); (case kAL => k_is); (case aRF => k_is); (case lRF => k_is)
    (case cRF => k_is); (case kRF => k_is); (case aAK => k_is); (case lAK => k_is); (case cAK => k_is); (case kAK => k_is); (case aLR => k_is); (case lLR => k_is)
    (case cLR => k_is); (case kLR => k_is); (case aDU => k_is); (case lDU => k_is); (case cDU => k_is); (case kDU => k_is); (case aSO => k_is); (case lSO => k_is)
    (case cSO => k_is); (case kSO => k_is); (case aGP => k_is); (case lGP => k_is); (case cGP => k_is); (case kGP => k_is); (case aRI => k_is); (case lRI => k_is)
    (case cRI => k_is); (case kRI => k_is); (case aLA => k_is); (case lLA => k_is); (case cLA => k_is); (case kLA => k_is); (case kC => k_is); (case lC => k_is)
    (case aZ => k_is); (case lZ => k_is); (case aW => k_is); (case aS => k_is); (case ac1 => k_is); (case ac2 => k_is); (case ac3 => k_is); (case ac4 => k_is)
    (case ac5 => k_is); (case ac7 => k_is); (case ac8 => k_is); (case iS => k_is); (case kS => k_is); (case lS => k_is); (case dS => k_is); (case gS => k_is)
    (case hSg => k_is); (case oS => k_is); (case moS => k_is); (case mbS => k_is); (case sW => k_is); (case dW => k_is); (case tW => k_is); (case sSW => k_is)
    (case sSV => k_is); (case d1 => k_is); (case ty1 => k_is); (case s1 => k_is); (case d2 => k_is); (case ty2 => k_is); (case s2 => k_is); (case d3 => k_is)
    (case ty3 => k_is); (case s3 => k_is); (case d4 => k_is); (case ty4 => k_is); (case s4 => k_is); (case d5 => k_is); (case ty5 => k_is); (case s5 => k_is)
    (case d6 => k_is); (case ty6 => k_is); (case s6 => k_is); (case d7 => k_is); (case ty7 => k_is); (case s7 => k_is); (case d8 => k_is); (case ty8 => k_is)
    (case s8 => k_is); (case aML => k_is); (case aMC => k_is); (case z_set => k_is); (case z_abs => k_is); (case z_len => k_is); (case z_range => k_is); (case z_isinstance => k_is)
    (case z_tuple => k_is); (case z_int => k_is); (case z_bool => k_is); (case z_list => k_is); (case z_str => k_is); (case z_all => k_is); (case z_any => k_is); (case z_zip => k_is)
    (case z_sorted => k_is); (case z_ValueError => k_is)
    (case ln => exact ⟨by decide, by decide, by decide, by decide⟩)
    (case lnS => exact ⟨by decide, by decide, by decide, by decide⟩)
    (case n1 => decide)
    (case n2 => decide)
    (case n3 => decide)
    (case n4 => decide)
    (case n5 => decide)
    (case n6 => decide)
    (case n7 => decide)
    (case n8 => decide)
