import PyProof.Rows.All
import Wide.All
import OpenK.AllK
import Wide.FinOn
import Lean
import PyProof.EqAt
import PyProof.EqKinds
import PyProof.TupleCall
import KE.KSortTup
import PyProof.NeKinds
import KE.KIntText
import KE.KRevIter
import PyProof.Rows.Range3
import PyProof.StrLawsTight
import PyProof.DictRoadsH
import PyProof.ZipIter
import KE.LcSums
import KE.KListMore
import KE.KDictList
import KE.KDictLaws
import PyProof.WalksEnum
import PyProof.EnumMake
import PyProof.Rows.EnumRows
import PyProof.DictCompW
import PyProof.Rows.SortKeyStr
import PyProof.Rows.SortWalk
import KE.KMinKey
import PyProof.NsDelKeeps
import PyProof.RulesDel
import PyProof.RulesDelMore
import PyProof.DelItemList
import KE.KNestM
import KE.KLam
import PyProof.ListRange
import KE.KFind
import PyProof.Rows.SortLt
import PyProof.SeqI3
import KE.KItemsList
import PySem.Challenge.RW_smallword_k39_whole_bounds_weighed
set_option Elab.async false
set_option linter.all false
set_option maxRecDepth 100000
set_option compiler.extract_closed false
set_option maxHeartbeats 8000000
theorem hZq{p:Prop}(h:∀q:Prop,q=p->q):p:=h p rfl
namespace Zz
def yY:=@List.length_map
def yZ:=@List.getElem?_eq_getElem
def z4:=@Nat.le_refl
def z5:=@List.mem_cons_of_mem
def z6:=@List.mem_cons_self
def z7:=@List.getElem?_map
def z9:=@List.size_toArray
def za:=@List.mem_of_getElem?
def zb:=@List.getElem?_eq_some_iff
def zc:=@List.mem_cons
def zd:=@List.getD_eq_getElem?_getD
def ze:=@Option.some.inj
def zf:=@Option.map_eq_some_iff
def zg:=@Nat.lt_of_le_of_lt
def zh:=@Nat.le_trans
def zj:=@List.map_cons
def zm:=@List.mem_append_right
def zo:=@Bool.false_ne_true
def zp:=@Nat.ne_of_lt
def zq:=@List.length_cons
def zr:=@Nat.zero_le
def zt:=@Nat.lt_of_lt_of_le
def zu:=@List.map_append
def zv:=@List.mem_append
def zw:=@List.mem_singleton
def zx:=@List.take_length
def zy:=@List.not_mem_nil
def zG:=@List.length_take
def zJ:=@List.mem_map
def zK:=@List.length_append
def zM:=@Int.natAbs_mul
def zO:=@Array.length_toList
def zQ:=@Array.getElem?_eq_getElem
def zR:=@List.length_filter_le
def zX:=@List.cons_append
def zY:=@List.length_range
def zZ:=@List.mem_range
def A3:=@Int.gcd_pos_of_ne_zero_right
def A4:=@List.filter_append
def A5:=@Array.getElem?_toList
def A6:=@List.pairwise_iff_getElem
def A7:=@List.getElem_mem
def A8:=@List.getElem?_eq_none
def A9:=@List.range_succ
def Aa:=@List.mem_filter
def Ab:=@List.lookup_cons
def Ac:=@Nat.add_le_add_left
def Ad:=@Int.toNat_natCast
def Ae:=@Int.fdiv_eq_ediv_of_nonneg
def Af:=@Int.zero_mul
def Ag:=@Bool.false_eq_true
def Ah:=@List.getElem_of_mem
def Ai:=@Nat.lt_succ_of_lt
def Aj:=@Nat.le_of_lt
def Ak:=@List.take_zero
def Al:=@List.zip_cons_cons
def Am:=@Nat.pow_le_pow_right
def An:=@List.nodup_iff_pairwise_ne
def Ao:=@List.find?_cons
def Ap:=@Int.zero_add
def Aq:=@Int.mul_zero
def Ar:=@Int.emod_lt_of_pos
def As:=@Nat.mul_le_mul_right
def At:=@List.mem_of_mem_take
def Au:=@List.cons.injEq
def Av:=@Int.emod_nonneg
def Aw:=@List.toList_toArray
def Ax:=@Int.mul_pos
def Ay:=@Nat.lt_succ_self
def Az:=@Bool.and_eq_true
def AA:=@Int.natAbs_neg
def AB:=@Nat.pow_lt_pow_right
def AC:=@List.nodup_cons
def AD:=@List.nil_append
def AE:=@List.mem_append_left
def AF:=@List.map_nil
def AG:=@List.map_map
def AH:=@Nat.lt_irrefl
def AI:=@Nat.mul_le_mul
def AJ:=@Nat.le_add_right
def AK:=@List.nodup_nil
def AL:=@Nat.mul_comm
def AM:=@Int.mul_comm
def AN:=@Bool.eq_iff_iff
def AO:=@List.ext_getElem?
end Zz
open Zz
namespace L2
open PySem PySem.Spec PyProof.Rows
abbrev Key:=Sum Int Str
noncomputable def fV:Key->Value->Bool
 | .inl k,v=>Value.isInt k v
 | .inr x,v=>Value.isStrOf x v
noncomputable def keyH(w:World):Key->Int
 | .inl k=>hashInt k
 | .inr x=>hashStr w x
theorem aF:∀ {k:Key} {v:Value},fV k v=true->(∃i t,k=Sum.inl i/\v=Value.int i t)\/(∃x t,k=Sum.inr x/\v=Value.str x t)
 | .inl i,v,h=>by
  obtain⟨t,e⟩:=Value.isInt_shape (k:=i) (v:=v) h;exact .inl ⟨i,t,rfl,e⟩
 | .inr x,v,h=>by
  obtain⟨t,e⟩:=Value.isStrOf_shape (x:=x) (v:=v) h;exact .inr ⟨x,t,rfl,e⟩
theorem iL(i:Int)(t:Tok):fV (.inl i) (.int i t)=true:=by simp[fV,Value.isInt]
theorem iK(x:Str)(t:Tok):fV (.inr x) (.str x t)=true:=by simp[fV,Value.isStrOf]
theorem xB(a b:Int):decide ((Sum.inl a:Key)=Sum.inl b)=(a==b):=by
 by_cases e:a=b
 . subst e;simp
 . have h:¬(Sum.inl a:Key)=Sum.inl b:=fun q=>e (Sum.inl.inj q);rw[decide_eq_false h];exact(beq_eq_false_iff_ne.mpr e).symm
theorem xy(a b:Str):decide ((Sum.inr a:Key)=Sum.inr b)=decide (a=b):=by
 by_cases e:a=b
 . subst e;simp
 . have h:¬(Sum.inr a:Key)=Sum.inr b:=fun q=>e (Sum.inr.inj q);rw[decide_eq_false h,decide_eq_false e]
theorem xA(a:Int)(b:Str):decide ((Sum.inl a:Key)=Sum.inr b)=false:=decide_eq_false (fun q=>nomatch q)
theorem xz(a:Str)(b:Int):decide ((Sum.inr a:Key)=Sum.inl b)=false:=decide_eq_false (fun q=>nomatch q)
noncomputable def aL(prog:Program)(w:World):PySem.KeyKind prog w Key where
 is:=fV
 hash:=keyH w
 inj:=fun v a b ha hb=>by
  rcases aF ha with⟨i,t,rfl,rfl⟩|⟨x,t,rfl,rfl⟩
  . rcases aF hb with⟨j,u,rfl,e⟩|⟨y,u,rfl,e⟩
    . injection e with e1 _;rw[e1]
    . exact nomatch e
  . rcases aF hb with⟨j,u,rfl,e⟩|⟨y,u,rfl,e⟩
    . exact nomatch e
    . injection e with e1 _;rw[e1]
 byValue:=fun k v h=>by
  rcases aF h with⟨i,t,rfl,rfl⟩|⟨x,t,rfl,rfl⟩<;>rfl
 pyHash:=fun hv h=>by
  rcases aF hv with⟨i,t,rfl,rfl⟩|⟨x,t,rfl,rfl⟩
  . exact wpAny_pyHash_int h
  . exact wpAny_pyHash_str h
 eqBool:=fun hu hv h=>by
  rcases aF hu with⟨i,t,rfl,rfl⟩|⟨x,t,rfl,rfl⟩
  . rcases aF hv with⟨j,u,rfl,rfl⟩|⟨y,u,rfl,rfl⟩
    . rw[xB]at h;exact wpAny_eqBool_int h
    . rw[xA]at h;exact SeqAt.EqAt.int_str i t y u _ _ _ _ h
  . rcases aF hv with⟨j,u,rfl,rfl⟩|⟨y,u,rfl,rfl⟩
    . rw[xz]at h;exact SeqAt.EqAt.str_int x t j u _ _ _ _ h
    . rw[xy]at h;exact wpAny_eqBool_str h
 «strs»:=fun k x t v h=>by
  rcases aF h with⟨i,u,rfl,e⟩|⟨y,u,rfl,e⟩
  . exact nomatch e
  . injection e with e1 _;subst e1;cases v<;>rfl
theorem k8(prog:Program)(w:World)(i:Int)(t:Tok):(aL prog w).is (.inl i) (.int i t)=true:=iL i t
theorem k7(prog:Program)(w:World)(x:Str)(t:Tok):(aL prog w).is (.inr x) (.str x t)=true:=iK x t
open PySem PySem.Spec PyProof.Rows
inductive V where
 |non|bl (b:Bool)|int (i:Int)|str (x:Str)|byt (b:Array UInt8)|flt (b:UInt64)|ref (a:Addr)|ty (n:String)
 deriving DecidableEq
def RelV:V->Value->Prop
 | .non,u=>u=Value.none
 | .bl b,u=>u=Value.bool b
 | .int i,u=>∃t,u=Value.int i t
 | .str x,u=>∃t,u=Value.str x t
 | .byt b,u=>∃t,u=Value.bytes b t
 | .flt b,u=>∃t,u=Value.float b t
 | .ref a,u=>u=Value.ref a
 | .ty n,u=>u=Value.type n
abbrev Vals:List V->List Value->Prop:=Paired RelV
theorem Vals.length{xs:List V}{us:List Value}(r:Vals xs us):xs.length=us.length:=Paired.length r
theorem Vals.get:∀ {xs:List V} {us:List Value} {i:Nat} {x:V},Vals xs us->xs[i]?=some x->∃u,us[i]?=some u/\RelV x u
 |_,_,_,_, .nil,e=>by simp at e
 |_,_,0,_, .cons r _,e=>by simp at e;subst e;exact⟨_,rfl,r⟩
 |_,_,i+1,x, .cons _ t,e=>by
  obtain⟨u,h1,h2⟩:=Vals.get (i:=i) (x:=x) t (by simpa using e)
  exact⟨u,by simpa using h1,h2⟩
theorem Vals.set{x:V}{u:Value}(r:RelV x u):∀ {xs:List V} {us:List Value} (i:Nat),Vals xs us->Vals (xs.set i x) (us.set i u)
 |_,_,_, .nil=> .nil
 |_,_,0, .cons _ t=> .cons r t
 |_,_,i+1, .cons q t=> .cons q (Vals.set r i t)
theorem Vals.append:∀ {xs ys:List V} {us ws:List Value},Vals xs us->Vals ys ws->Vals (xs++ys) (us++ws)
 |_,_,_,_, .nil,s=>s
 |_,_,_,_, .cons r t,s=> .cons r (Vals.append t s)
theorem Vals.take:∀ {xs:List V} {us:List Value} (n:Nat),Vals xs us->Vals (xs.take n) (us.take n)
 |_,_,0,_=> .nil
 |_,_,_+1, .nil=> .nil
 |_,_,n+1, .cons r t=> .cons r (Vals.take n t)
theorem Vals.drop:∀ {xs:List V} {us:List Value} (n:Nat),Vals xs us->Vals (xs.drop n) (us.drop n)
 |_,_,0,r=>r
 |_,_,_+1, .nil=> .nil
 |_,_,n+1, .cons _ t=>Vals.drop n t
def RelO:Option V->Option Value->Prop
 |some v,some u=>RelV v u
 |none,none=>True
 |_,_=>False
def KV{κ:Type}:List (κ×V)->List (κ×Value)->Prop:=Paired fun(p:κ×V) (q:κ×Value)=>p.1=q.1/\RelV p.2 q.2
def kV:Key->V
 | .inl i=> .int i
 | .inr x=> .str x
inductive HO where
 |lst (xs:List V)
 |tup (xs:List V)
 |dK (kvs:List (Key×V))|dT (kvs:List (List Key×V))
 |set (S:Int->Bool) (n:Nat)
 |ins (C dx:Addr) (fs:List (Str×V))
 |own (x:Addr)
 |xd (fs:List (Str×V))
 |met (f x:Addr)
 |rng (lo hi:Int)
 |frz (o:Obj) (u:HO)
 |tbl (ps:Array Value)
 |ext (φ:Heap->Prop)
abbrev Hp:=Addr->Option HO
noncomputable def upd(H:Hp)(a:Addr)(o:HO):Hp:=fun b=>if b=a then some o else H b
theorem a8{H:Hp}{a:Addr}{o:HO}:upd H a o a=some o:=by unfold upd;rw[if_pos rfl]
theorem ag{H:Hp}{a b:Addr}{o:HO}(h:b≠a):upd H a o b=H b:=by unfold upd;rw[if_neg h]
theorem iZ{H:Hp}{a:Addr}{o u:HO}:upd (upd H a o) a u=upd H a u:=by
 funext b;unfold upd;split<;>rfl
theorem aE{H:Hp}{a b:Addr}{o:HO}(h:H a=some o)(h':H b=none):a≠b:=by
 intro e;subst e;rw[h]at h';cases h'
section
variable(P:Program)(w:World)
def ObjOk(H:Hp)(h:Heap)(a:Addr):HO->Prop
 | .lst xs=>xs.length<=sizeLine/\∃(its:List Value) (n:Nat),Vals xs its/\h.get? a=some {cls:= .type "list",data:= .seq its.toArray n}
 | .tup xs=>xs.length<=sizeLine/\∃its:List Value,Vals xs its/\IsTup h a its.toArray
 | .dK kvs=>kvs.length<=sizeLine/\(a==sysModules)=false/\∃vs,KV kvs vs/\h.DictOf (aL P w) a vs
 | .dT kvs=>kvs.length<=sizeLine/\(a==sysModules)=false/\∃xs:List (List Key×Addr×Value),
  Paired (fun(p:List Key×V) (q:List Key×Addr×Value)=>p.1=q.1/\H q.2.1=some (.tup (p.1.map kV))/\RelV p.2 q.2.2) kvs xs/\
  ∃o es ep,h.get? a=some o/\o.ExactDict/\o.data= .dict es ep/\es.toList=xs.map (entryOfKey (tupleKind (aL P w)))/\(xs.map (·.1)).Nodup
 | .set S n=>h.SetOf (intKind P w) a S n
 | .ins C dx fs=>H dx=some (.own a)/\fs.length<=1000/\dx≠a/\h.get? a=some (PySem.W.instObj C dx)/\
  ∃mA,h.Ns1 dx mA/\(∀f,RelO (fs.lookup f) (mA f))/\PySem.Within mA (fs.map (·.1))
 | .own _=>∃o,h.get? a=some o
 | .xd fs=>∃mA,h.Ns1 a mA/\∀f,RelO (fs.lookup f) (mA f)
 | .rng lo hi=>∃t u v,h.get? a=some {cls:= .type "range",data:= .fields #[.int lo t, .int hi u, .int 1 v]}
 | .frz o u=>h.get? a=some o/\ObjOk H h a u
 | .tbl ps=>h.get? a=some {cls:= .none,data:= .fields ps}
 | .met f x=>h.get? a=some (PySem.W.methodObj (.ref f) (.ref x))
 | .ext φ=>φ h/\(∃o,h.get? a=some o)/\∀h1 h2:Heap,φ h1->(∀o,h1.get? a=some o->h2.get? a=some o)->φ h2
def HOk(H:Hp)(h:Heap):Prop:=∀a o,H a=some o->ObjOk P w H h a o
end
section
variable{P:Program}{w:World}{H H':Hp}{h h':Heap}{a:Addr}{o:HO}
theorem ObjOk.lt(x:ObjOk P w H h a o):a < h.objs.size:=by
 cases o with
 |lst xs=>obtain⟨_,_,_,_,e⟩:=x;exact Heap.lt_size e
 |tup xs=>obtain⟨_,_,_,p⟩:=x;exact p.lt
 |dK kvs=>obtain⟨_,_,_,_,o,_,_,e,_⟩:=x;exact Heap.lt_size e
 |dT kvs=>obtain⟨_,_,_,_,o,_,_,e,_⟩:=x;exact Heap.lt_size e
 |set S n=>obtain⟨o,_,_,_,e,_⟩:=x;exact Heap.lt_size e
 |ins C dx fs=>obtain⟨_,_,_,e,_⟩:=x;exact Heap.lt_size e
 |own y=>obtain⟨_,e⟩:=x;exact Heap.lt_size e
 |xd fs=>obtain⟨_,⟨_,_,_,e,_⟩,_⟩:=x;exact Heap.lt_size e
 |rng lo hi=>obtain⟨_,_,_,e⟩:=x;exact Heap.lt_size e
 |frz ob u=>obtain⟨e,_⟩:=x;exact Heap.lt_size e
 |tbl ps=>exact Heap.lt_size (show h.get? a=some _ from x)
 |met f y=>exact Heap.lt_size (show h.get? a=some _ from x)
 |ext φ=>obtain⟨_,⟨_,e⟩,_⟩:=x;exact Heap.lt_size e
theorem Paired.mapP{α β:Type}{F G:α->β->Prop}:∀ {l₁:List α} {l₂:List β},Paired F l₁ l₂->(∀a b,F a b->G a b)->Paired G l₁ l₂
 |_,_, .nil,_=> .nil
 |_,_, .cons r t,f=> .cons (f _ _ r) (Paired.mapP t f)
theorem Paired.imp'{α β:Type}{F G:α->β->Prop}(f:∀a b,F a b->G a b){l₁:List α}{l₂:List β}(r:Paired F l₁ l₂):Paired G l₁ l₂:=Paired.mapP r f
theorem ObjOk.stay(x:ObjOk P w H h a o)(k:∀b u,(b=a\/H b=some (.own a))->h.get? b=some u->h'.get? b=some u)(ho:∀b,H b=some (.own a)->H' b=some (.own a))(ht:∀b xs,H b=some (.tup xs)->H' b=some (.tup xs)):ObjOk P w H' h' a o:=by
 induction o with
 |lst xs=>obtain⟨z,its,n,r,e⟩:=x;exact⟨z,its,n,r,k _ _ (.inl rfl) e⟩
 |tup xs=>obtain⟨z,its,r,ob,e,c⟩:=x;exact⟨z,its,r,ob,k _ _ (.inl rfl) e,c⟩
 |dK kvs=>obtain⟨z,y,vs,r,ob,es,ep,e,c⟩:=x;exact⟨z,y,vs,r,ob,es,ep,k _ _ (.inl rfl) e,c⟩
 |dT kvs=>
  obtain⟨z,y,xs,r,ob,es,ep,e,c⟩:=x;exact⟨z,y,xs,Paired.mapP r fun p q z=>⟨z.1,ht _ _ z.2.1,z.2.2⟩,ob,es,ep,k _ _ (.inl rfl) e,c⟩
 |set S n=>obtain⟨ob,es,ep,t,e,c⟩:=x;exact⟨ob,es,ep,t,k _ _ (.inl rfl) e,c⟩
 |ins C dx fs=>
  obtain⟨d,z,ne,e,mA,⟨g,es,ep,e2,c⟩,r⟩:=x;exact⟨ho _ d,z,ne,k _ _ (.inl rfl) e,mA,⟨g,es,ep,k _ _ (.inr d) e2,c⟩,r⟩
 |own y=>obtain⟨ob,e⟩:=x;exact⟨ob,k _ _ (.inl rfl) e⟩
 |xd fs=>obtain⟨mA,⟨g,es,ep,e,c⟩,r⟩:=x;exact⟨mA,⟨g,es,ep,k _ _ (.inl rfl) e,c⟩,r⟩
 |rng lo hi=>obtain⟨t,u,v,e⟩:=x;exact⟨t,u,v,k _ _ (.inl rfl) e⟩
 |frz ob u i=>obtain⟨e,q⟩:=x;exact⟨k _ _ (.inl rfl) e,i q⟩
 |tbl ps=>
  have e:h.get? a=some {cls:= .none,data:= .fields ps}:=x;show h'.get? a=some {cls:= .none,data:= .fields ps};exact k a _ (.inl rfl) e
 |met f y=>
  have e:h.get? a=some (PySem.W.methodObj (.ref f) (.ref y)):=x;show h'.get? a=some (PySem.W.methodObj (.ref f) (.ref y));exact k a _ (.inl rfl) e
 |ext φ=>obtain⟨p,⟨o,e⟩,st⟩:=x;exact⟨st _ _ p fun o q=>k _ _ (.inl rfl) q,⟨o,k _ _ (.inl rfl) e⟩,st⟩
theorem HOk.lt(x:HOk P w H h)(e:H a=some o):a < h.objs.size:=(x a o e).lt
theorem HOk.fresh(x:HOk P w H h)(e:h.objs.size<=a):H a=none:=by
 cases q:H a with
 |none=>rfl
 |some u=>exact absurd (zt (x.lt q) e) (AH _)
theorem HOk.kept(x:HOk P w H h)(k:∀b u,h.get? b=some u->h'.get? b=some u):HOk P w H h':=fun a o e=>
 (x a o e).stay (fun b u _ q=>k b u q) (fun _ q=>q) fun _ _ q=>q
theorem HOk.laid(x:HOk P w H h)(k:∀b u,h.get? b=some u->h'.get? b=some u)(hp:h.objs.size<=a)(new:ObjOk P w (upd H a o) h' a o):HOk P w (upd H a o) h':=fun b u e=>by
 have hn:=x.fresh hp;by_cases hb:b=a
 . subst hb;rw[a8]at e;cases e;exact new
 . rw[ag hb]at e;exact(x b u e).stay (fun c v _ q=>k c v q) (fun c q=>by rw[ag (aE q hn)];exact q) fun c xs q=>by rw[ag (aE q hn)];exact q
end
def Rd(H:Hp)(a:Addr)(u:HO):Prop:=H a=some u\/∃o,H a=some (.frz o u)
theorem Rd.ok{P:Program}{w:World}{H:Hp}{h:Heap}{a:Addr}{u:HO}(r:Rd H a u)(x:HOk P w H h):ObjOk P w H h a u:=by
 rcases r with r|⟨o,r⟩
 . exact x a u r
 . obtain⟨_,q⟩:=x a _ r;exact q
def Mut:Option HO->Prop
 |some (.lst _)=>True
 |some (.dK _)=>True
 |some (.dT _)=>True
 |some (.set _ _)=>True
 |some (.ins _ _ _)=>True
 |some (.ext _)=>True
 |_=>False
section
variable{P:Program}{w:World}{H:Hp}{h h':Heap}{x e:Addr}{o':HO}
theorem HOk.write(ok:HOk P w H h)(mu:Mut (H x))(he:e=x\/H e=some (.own x))(k:∀b u,b≠e->h.get? b=some u->h'.get? b=some u)(heo:∃u,h'.get? e=some u)(new:ObjOk P w (upd H x o') h' x o'):HOk P w (upd H x o') h':=fun b u q=>by
 have d:∀c y,H c=some (.own y)->c≠x:=fun c y r z=>by subst z;rw[r]at mu;exact mu
 have f:∀c xs,H c=some (.tup xs)->c≠x:=fun c xs r z=>by subst z;rw[r]at mu;exact mu
 by_cases hb:b=x
 . subst hb;rw[a8]at q;cases q;exact new
 . rw[ag hb]at q;by_cases a:b=e
   . have g:H b=some (.own x):=by
      rcases he with z|z
      . exact absurd (a.trans z) hb
      . rw[a];exact z
     rw[q]at g;cases g;obtain⟨v,hv⟩:=heo;exact⟨v,by rw[a];exact hv⟩
   . refine(ok b u q).stay (fun c v hc r=>k c v ?_ r) (fun c r=>by rw[ag (d c b r)];exact r) fun c xs r=>by rw[ag (f c xs r)];exact r
     rcases hc with rfl|hc
     . exact a
     . rintro rfl;rcases he with z|z
       . exact d c b hc z
       . rw[hc]at z;cases z;exact hb rfl
end
def Idl(x:Option HO):Prop:=x=none\/∃xs,x=some (.tup xs)
structure Un (fs ex:List Addr) (H H':Hp) (h h':Heap):Prop where
 keep:∀b o,h.get? b=some o->Idl (H b)->b∉fs->b∉ex->h'.get? b=some o
 slot:∀b o,h.get? b=some o->H b=none->b∈fs->b∉ex->∃sl,h'.get? b=some {o with slots:=sl}
 free:∀b o,h.get? b=some o->H b=none->b∉ex->H' b=none
 there:∀b o,h.get? b=some o->b∉ex->∃o',h'.get? b=some o'
 tups:∀b xs,H b=some (.tup xs)->H' b=some (.tup xs)
 frzs:∀b o u,H b=some (.frz o u)->H' b=some (.frz o u)
 tbls:∀b ps,H b=some (.tbl ps)->∃more,H' b=some (.tbl (ps++more))
section
variable{fs fs' ex ex':List Addr}{H H1 H2:Hp}{h h1 h2 h':Heap}{a x e:Addr}{o:HO}
theorem Un.any(u:Un fs ex H H1 h h1){b:Addr}{ob:Obj}(q:h.get? b=some ob)(n:H b=none)(hx:b∉ex):∃sl,h1.get? b=some {ob with slots:=sl}:=by
 by_cases hb:b∈fs
 . exact u.slot b ob q n hb hx
 . exact⟨ob.slots,u.keep b ob q (.inl n) hb hx⟩
theorem Un.idl(u:Un fs ex H H1 h h1){b:Addr}{ob:Obj}(q:h.get? b=some ob)(n:Idl (H b))(hx:b∉ex):Idl (H1 b):=by
 rcases n with n|⟨xs,n⟩
 . exact .inl (u.free b ob q n hx)
 . exact .inr ⟨xs,u.tups b xs n⟩
theorem Un.kept(k:∀b u,h.get? b=some u->h'.get? b=some u):Un fs ex H H h h':=
 ⟨fun b ob q _ _ _=>k b ob q,fun b ob q _ _ _=>⟨ob.slots,k b ob q⟩,fun _ _ _ n _=>n,fun b ob q _=>⟨ob,k b ob q⟩,fun _ _ q=>q,fun _ _ _ q=>q,fun _ ps q=>⟨#[],by rw[q];simp⟩⟩
theorem Un.refl:Un fs ex H H h h:=Un.kept fun _ _ q=>q
theorem Un.laid(k:∀b u,h.get? b=some u->h'.get? b=some u)(hp:h.objs.size<=a)(hn:H a=none):Un fs ex H (upd H a o) h h' where
 keep:=fun b u q _ _ _=>k b u q
 slot:=fun b u q _ _ _=>⟨u.slots,k b u q⟩
 free:=fun b u q n _=>by rw[ag (zp (zt (Heap.lt_size q) hp))];exact n
 there:=fun b u q _=>⟨u,k b u q⟩
 tups:=fun b xs q=>by rw[ag (aE q hn)];exact q
 frzs:=fun b u xs q=>by rw[ag (aE q hn)];exact q
 tbls:=fun b ps q=>⟨#[],by rw[ag (aE q hn),q];simp⟩
theorem Un.write(mu:Mut (H x))(he:e=x\/H e=some (.own x))(k:∀b u,b≠e->h.get? b=some u->h'.get? b=some u)(heo:∃u,h'.get? e=some u):Un fs ex H (upd H x o) h h':=by
 have hx:∀b,H b=none->b≠x:=fun b n z=>by subst z;rw[n]at mu;exact mu
 have hb:∀b,H b=none->b≠e:=fun b n z=>by
  subst z;rcases he with r|r
  . exact hx b n r
  . rw[n]at r;cases r
 have hi:∀b,Idl (H b)->b≠e:=fun b n z=>by
  rcases n with n|⟨xs,n⟩
  . exact hb b n z
  . subst z;rcases he with r|r
    . subst r;rw[n]at mu;exact mu
    . rw[n]at r;cases r
 have hm:∀b u,H b=some u->¬Mut (some u)->b≠x:=fun b u q nm z=>by subst z;rw[q]at mu;exact nm mu
 refine⟨fun b u q n _ _=>k b u (hi b n) q,fun b u q n _ _=>⟨u.slots,k b u (hb b n) q⟩,fun b u q n _=>by rw[ag (hx b n)];exact n,fun b u q _=>?_,
  fun b xs q=>by rw[ag (hm b _ q fun z=>z)];exact q,fun b u xs q=>by rw[ag (hm b _ q fun z=>z)];exact q,fun b ps q=>⟨#[],by rw[ag (hm b _ q fun z=>z),q];simp⟩⟩
 by_cases a:b=e
 . subst a;exact heo
 . exact⟨u,k b u a q⟩
end
noncomputable def trk(h:Heap)(H:Hp):List Addr:=(List.range h.objs.size).filter fun a=>(H a).isSome
noncomputable def hidT(h:Heap)(H:Hp):Heap:=PySem.W.hideAll h (trk h H)
theorem oQ(h:Heap)(H:Hp):(hidT h H).objs.size=h.objs.size:=PySem.W.hideAll_size _ _
theorem sU{h:Heap}{H:Hp}{b:Addr}{o:Obj}(e:h.get? b=some o)(n:H b=none):(hidT h H).get? b=some o:=
 PySem.W.hideAll_get _ e fun hm=>by
  have q:(H b).isSome=true:=(Aa.mp hm).2;rw[n]at q;simp at q
theorem mU{h:Heap}{H:Hp}{b:Addr}{o:Obj}(e:(hidT h H).get? b=some o):h.get? b=some o/\H b=none:=by
 have e':h.get? b=some o:=PySem.W.of_hideAll (trk h H) e;refine⟨e',?_⟩
 cases q:H b with
 |none=>rfl
 |some x=>
  have hm:b∈trk h H:=Aa.mpr ⟨zZ.mpr (Heap.lt_size e'),by simp[q]⟩
  have z:(hidT h H).get? b=none:=PySem.W.hideAll_none (trk h H) hm;rw[z]at e;cases e
open PySem PySem.Spec PyProof.Rows
structure Mod (K:PySem.W.Frag) (mg:Str->Option Value) (base:Heap):Prop where
 kin:K.In base
 glob:base.Ns mainGlobals mg
 blt:∃mb,base.Ns builtinsNs mb/\∀x:Str,x≠"__name__"->mb x=bootBuiltins x
 nolimit:base.NoLimit
structure Cx where
 prog:Program
 w:World
 K:PySem.W.Frag
 mg:Str->Option Value
 base:Heap
 A:Around
 N:List Str
 s₀:Shared
 H₀:Hp
 env:Env
 outer:List Env
 stack:List Env
 ex:List Addr
 fn:Str->Bool
 calm:Bool
 pn:List (Addr×Obj)
 xe:Value->Shared->Prop
def frs(l:List Env):List Addr:=l.filterMap (·.frame)
abbrev Cx.fs(X:Cx):List Addr:=frs X.outer
def Vis(sc:Scope)(x:Str):Prop:=sc.names.lookup x=some .local\/sc.names.lookup x=some .cell\/sc.names.lookup x=some .free
def Loc(sc:Scope)(x:Str):Prop:=sc.names.lookup x=some .local\/sc.names.lookup x=some .cell
def Look(env:Env)(h:Heap)(m:Str->Option Value)(x:Str)(u:Value):Prop:=
 (env.kindOf x=some .local/\m x=some u)\/((env.kindOf x=some .cell\/env.kindOf x=some .free)/\∃c,env.cells.lookup x=some c/\h.IsCell c (some u))
structure Cx.Ok (X:Cx):Prop where
 mod:Mod X.K X.mg X.base
 kind:X.env.scope.kind= .function
 glob:X.env.globals=mainGlobals
 blt:X.env.builtins=builtinsNs
 above:X.s₀.heap.objs.size<=X.env.locals
 inj:∀x y c,X.env.cells.lookup x=some c->X.env.cells.lookup y=some c->x=y
 has:∀x,(X.env.kindOf x=some .cell\/X.env.kindOf x=some .free)->∃c,X.env.cells.lookup x=some c
 cab:∀x c,X.fn x=true->X.env.cells.lookup x=some c->X.s₀.heap.objs.size<=c
 hd:X.calm=true->X.A.handled=none
 frames:X.A.frames=some X.stack
 stk:X.stack=X.outer\/(X.stack=X.env::X.outer/\X.env.frame=some X.env.locals)
 exf:∀b∈X.ex,b≠X.env.locals/\∀x c,X.env.cells.lookup x=some c->c≠b
 bs:∀b o,X.base.get? b=some o->X.s₀.heap.get? b=some o/\Idl (X.H₀ b)
 bsz:X.base.objs.size<=X.s₀.heap.objs.size
 noex:∀b o,X.base.get? b=some o->b∉X.ex
 exfs:∀b∈X.ex,b∉X.fs
 funs:X.s₀.heap.FunFrames X.base X.outer
 frf:∀b∈X.fs,X.H₀ b=none
structure Inv (X:Cx) (pins:List (Addr×Obj)) (σ:List (Option V)) (H:Hp) (s:Shared):Prop where
 ok:X.Ok
 os:s.os=X.s₀.os
 bare:AllBare s.gens
 base:Un X.fs X.ex X.H₀ H X.s₀.heap s.heap
 loc:∃m,s.heap.Ns X.env.locals m/\∀(i:Nat) (x:Str) (v:V),X.N[i]?=some x->σ[i]?=some (some v)->Vis X.env.scope x->∃u,RelV v u/\Look X.env s.heap m x u
 cell:∀x c,X.env.cells.lookup x=some c->∃v,s.heap.IsCell c v
 free:H X.env.locals=none
 freeC:∀x c,X.env.cells.lookup x=some c->H c=none
 pin:∀p∈X.pn++pins,s.heap.get? p.1=some p.2/\H p.1=none/\p.1≠X.env.locals/\p.1∉X.fs/\∀v,p.2.data≠ .cell v
 hok:HOk X.prog X.w H s.heap
 len:σ.length=X.N.length
section
variable{X:Cx}{pins:List (Addr×Obj)}{σ:List (Option V)}{H H':Hp}{s:Shared}{h':Heap}
theorem Cx.Ok.nofr(ok:X.Ok){b:Addr}{o:Obj}(e:X.base.get? b=some o):b∉X.fs:=fun hb=>by
 have:=(ok.funs.mem hb).1;rw[e]at this;cases this
theorem Inv.bs(I:Inv X pins σ H s):∀b o,X.base.get? b=some o->s.heap.get? b=some o/\Idl (H b):=fun b o e=>
 ⟨I.base.keep b o (I.ok.bs b o e).1 (I.ok.bs b o e).2 (I.ok.nofr e) (I.ok.noex b o e),I.base.idl (I.ok.bs b o e).1 (I.ok.bs b o e).2 (I.ok.noex b o e)⟩
theorem Inv.bk(I:Inv X pins σ H s):∀b o,X.base.get? b=some o->s.heap.get? b=some o:=fun b o e=>(I.bs b o e).1
theorem Inv.mod(I:Inv X pins σ H s):Mod X.K X.mg X.base:=I.ok.mod
theorem Inv.kIn(I:Inv X pins σ H s):X.K.In s.heap:=I.ok.mod.kin.keeps I.bk
theorem Inv.nolimit(I:Inv X pins σ H s):s.heap.NoLimit:=I.ok.mod.nolimit.keeps I.bk
theorem Inv.fr(I:Inv X pins σ H s):∃m,Fr X.base X.env.locals s.heap m:=
 let ⟨m,hn,_⟩:=I.loc
 ⟨m,hn,I.bk,zh I.ok.bsz I.ok.above⟩
theorem Inv.lt(I:Inv X pins σ H s):X.env.locals < s.heap.objs.size:=let ⟨_,hn,_⟩:=I.loc;hn.lt
theorem Inv.sz(I:Inv X pins σ H s):X.s₀.heap.objs.size<=s.heap.objs.size:=zh I.ok.above (Aj I.lt)
theorem Inv.nofs(I:Inv X pins σ H s){a:Addr}(h:s.heap.objs.size<=a):a∉X.fs:=fun hb=>by
 obtain⟨_,o,ho,_⟩:=I.ok.funs.mem hb;exact absurd (zt (Heap.lt_size ho) (zh I.sz h)) (AH _)
theorem Inv.cne(I:Inv X pins σ H s):∀x c,X.env.cells.lookup x=some c->c≠X.env.locals:=fun x c e z=>by
 obtain⟨v,o,ho,hd⟩:=I.cell x c e;obtain⟨m,⟨o',es,ep,a,b,_⟩,_⟩:=I.loc;rw[z,a]at ho;cases ho;rw[b]at hd;cases hd
theorem Inv.funs(I:Inv X pins σ H s):s.heap.FunFrames X.base X.outer:=by
 have all:∀(l:List Env),(∀b∈frs l,b∈X.fs)->X.s₀.heap.FunFrames X.base l->s.heap.FunFrames X.base l:=by
  intro l
  induction l with
  |nil=>intro _ _;trivial
  |cons env r d=>
   intro hs hl;obtain⟨hk,⟨L,o,a,hn,ho,hd⟩,hr⟩:=hl;have c:L∈X.fs:=hs L (by unfold frs;rw[List.filterMap_cons,a];exact z6)
   obtain⟨sl,e⟩:=I.base.slot L o ho (I.ok.frf L c) c fun z=>I.ok.exfs L z c;exact⟨hk,⟨L,_,a,hn,e,hd⟩,d (fun b hb=>hs b (by unfold frs;rw[List.filterMap_cons,a];exact z5 _ hb)) hr⟩
 exact all X.outer (fun _ hb=>hb) I.ok.funs
theorem Inv.stack(I:Inv X pins σ H s):s.heap.FunFrames X.base X.stack:=by
 rcases I.ok.stk with e|⟨e,a⟩
 . rw[e];exact I.funs
 . rw[e];obtain⟨m,hn,_⟩:=I.loc;refine .cons (by rw[I.ok.kind];decide) a hn ?_ I.funs
   exact Heap.get?_none_of_le (zh I.ok.bsz I.ok.above)
theorem Inv.stkSub(I:Inv X pins σ H s):∀b∈frs X.stack,b∈X.env.locals::X.fs:=fun b hb=>by
 rcases I.ok.stk with e|⟨e,a⟩
 . rw[e]at hb;exact z5 _ hb
 . rw[e]at hb;unfold frs at hb;rw[List.filterMap_cons,a]at hb;exact hb
theorem Inv.stkFree(I:Inv X pins σ H s):∀b∈frs X.stack,H b=none:=fun b hb=>by
 rcases zc.mp (I.stkSub b hb)with e|hb
 . rw[e];exact I.free
 . obtain⟨_,o,ho,_⟩:=I.ok.funs.mem hb;exact I.base.free b o ho (I.ok.frf b hb) fun z=>I.ok.exfs b z hb
theorem Inv.step{g':Array GenState}{t':Nat}{d':Drawn}{ch:List Addr}(I:Inv X pins σ H s)(hch:∀b∈ch,(b∈X.ex\/X.s₀.heap.objs.size<=b)/\b≠X.env.locals/\(∀x c,X.env.cells.lookup x=some c->c≠b)/\∀p∈X.pn++pins,p.1≠b)(keep:∀b o,b≠X.env.locals->b∉X.fs->b∉ch->s.heap.get? b=some o->Idl (H b)->h'.get? b=some o)(slot:∀b o,b≠X.env.locals->b∈X.fs->b∉ch->s.heap.get? b=some o->H b=none->∃sl,h'.get? b=some {o with slots:=sl})(free:∀b o,b∉ch->s.heap.get? b=some o->H b=none->H' b=none)(there:∀b o,b∉ch->s.heap.get? b=some o->∃o',h'.get? b=some o')(tups:∀b xs,H b=some (.tup xs)->H' b=some (.tup xs))(frzs:∀b o u,H b=some (.frz o u)->H' b=some (.frz o u))(tbls:∀b ps,H b=some (.tbl ps)->∃more,H' b=some (.tbl (ps++more)))(ns:∀m,s.heap.Ns X.env.locals m->h'.Ns X.env.locals m)(hok:HOk X.prog X.w H' h')(hg:AllBare g'):
 Inv X pins σ H' {s with heap:=h',gens:=g',drawn:=d',toks:=t'}:=by
 have h:∀b o,X.s₀.heap.get? b=some o->b≠X.env.locals:=fun b o e=>zp (zt (Heap.lt_size e) I.ok.above)
 have g:∀b o,X.s₀.heap.get? b=some o->b∉X.ex->b∉ch:=fun b o e hx hb=>by
  rcases(hch b hb).1 with z|z
  . exact hx z
  . exact absurd (zt (Heap.lt_size e) z) (AH _)
 have a:∀x c,X.env.cells.lookup x=some c->∀v,s.heap.IsCell c v->h'.IsCell c v:=fun x c e v ⟨o,ho,hd⟩=>by
  have f:c∉ch:=fun z=>(hch c z).2.2.1 x c e rfl;by_cases hc:c∈X.fs
  . obtain⟨sl,q⟩:=slot c o (I.cne x c e) hc f ho (I.freeC x c e);exact⟨_,q,hd⟩
  . exact⟨o,keep c o (I.cne x c e) hc f ho (.inl (I.freeC x c e)),hd⟩
 refine⟨I.ok,I.os,hg,⟨fun b o e n hb hx=>?_,fun b o e n hb hx=>?_,fun b o e n hx=>?_,fun b o e hx=>?_,fun b xs e=>tups b xs (I.base.tups b xs e),fun b o xs e=>frzs b o xs (I.base.frzs b o xs e),fun b ps e=>?_⟩,?_,fun x c e=>?_,?_,fun x c e=>?_,fun p hp=>?_,hok,I.len⟩
 . exact keep b o (h b o e) hb (g b o e hx) (I.base.keep b o e n hb hx) (I.base.idl e n hx)
 . obtain⟨sl,e1⟩:=I.base.slot b o e n hb hx;obtain⟨j,e2⟩:=slot b _ (h b o e) hb (g b o e hx) e1 (I.base.free b o e n hx);exact⟨j,e2⟩
 . obtain⟨o',e1⟩:=I.base.there b o e hx;exact free b o' (g b o e hx) e1 (I.base.free b o e n hx)
 . obtain⟨o',e1⟩:=I.base.there b o e hx;exact there b o' (g b o e hx) e1
 . obtain⟨m1,e1⟩:=I.base.tbls b ps e;obtain⟨y,e2⟩:=tbls b _ e1;exact⟨m1++y,by rw[e2,Array.append_assoc]⟩
 . obtain⟨m,hn,hl⟩:=I.loc;refine⟨m,ns m hn,fun i x v e1 e2 e3=>?_⟩;obtain⟨u,r,l⟩:=hl i x v e1 e2 e3;refine⟨u,r,?_⟩;rcases l with l|⟨k,c,e,z⟩
   . exact .inl l
   . exact .inr ⟨k,c,e,a x c e _ z⟩
 . obtain⟨v,z⟩:=I.cell x c e;exact⟨v,a x c e v z⟩
 . obtain⟨m,⟨o,_,_,ho,_⟩,_⟩:=I.loc;exact free _ o (fun z=>(hch _ z).2.1 rfl) ho I.free
 . obtain⟨v,o,ho,hd⟩:=I.cell x c e;exact free c o (fun z=>(hch c z).2.2.1 x c e rfl) ho (I.freeC x c e)
 . obtain⟨e,n,ne,t,d⟩:=I.pin p hp;have f:p.1∉ch:=fun z=>(hch p.1 z).2.2.2 p hp rfl;exact⟨keep p.1 p.2 ne t f e (.inl n),free p.1 p.2 f e n,ne,t,d⟩
theorem Inv.un{t':Nat}(I:Inv X pins σ H s)(u:Un X.fs [] H H' s.heap h')(hok:HOk X.prog X.w H' h'):Inv X pins σ H' {s with heap:=h',toks:=t'}:=by
 obtain⟨m,⟨o,es,ep,ho,r⟩,_⟩:=id I.loc;obtain⟨sl,f⟩:=u.any ho I.free (by simp)
 exact I.step (g':=s.gens) (d':=s.drawn) (ch:= []) (fun _ z=>nomatch z) (fun b o _ hb _ e n=>u.keep b o e n hb (by simp)) (fun b o _ hb _ e n=>u.slot b o e n hb (by simp)) (fun b o _ e n=>u.free b o e n (by simp)) (fun b o _ e=>u.there b o e (by simp)) u.tups u.frzs u.tbls (fun m' hm=>by
  obtain⟨o',c,d,a,r'⟩:=hm;rw[ho]at a;cases a
  exact⟨_,c,d,f,r'⟩) hok I.bare
theorem Inv.call{g':Array GenState}{t':Nat}{d':Drawn}{ch:List Addr}(I:Inv X pins σ H s)(u:Un (frs X.stack) ch H H' s.heap h')(hok:HOk X.prog X.w H' h')(hg:AllBare g')(hch:∀b∈ch,(b∈X.ex\/X.s₀.heap.objs.size<=b)/\b≠X.env.locals/\(∀x c,X.env.cells.lookup x=some c->c≠b)/\∀p∈X.pn++pins,p.1≠b):
 Inv X pins σ H' {s with heap:=h',gens:=g',drawn:=d',toks:=t'}:=by
 obtain⟨m,⟨o,es,ep,ho,r⟩,_⟩:=id I.loc;obtain⟨sl,f⟩:=u.any ho I.free fun z=>(hch _ z).2.1 rfl
 exact I.step (ch:=ch) hch (fun b o f hb hc e n=>u.keep b o e n (fun z=>(zc.mp (I.stkSub b z)).elim f hb) hc) (fun b o _ _ hc e n=>u.any e n hc) (fun b o hc e n=>u.free b o e n hc) (fun b o hc e=>u.there b o e hc) u.tups u.frzs u.tbls (fun m' hm=>by
  obtain⟨o',d,g,a,r'⟩:=hm;rw[ho]at a;cases a
  exact⟨_,d,g,f,r'⟩) hok hg
theorem Inv.turned{t':Nat}{it:Addr}(I:Inv X pins σ H s)(k:∀b o,b≠it->s.heap.get? b=some o->h'.get? b=some o)(hn:H it=none)(hL:it≠X.env.locals)(h1:it∈X.ex\/X.s₀.heap.objs.size<=it)(h2:∀x c,X.env.cells.lookup x=some c->c≠it)(h3:∀p∈X.pn++pins,p.1≠it):Inv X pins σ H {s with heap:=h',toks:=t'}:=by
 have a:∀b u,H b=some u->b≠it:=fun b u e z=>by rw[z,hn]at e;cases e
 refine I.step (g':=s.gens) (d':=s.drawn) (ch:= [it]) (fun b hb=>?_) (fun b o _ _ hc e _=>k b o (fun z=>hc (by simp[z])) e) (fun b o _ _ hc e _=>⟨o.slots,k b o (fun z=>hc (by simp[z])) e⟩) (fun _ _ _ _ n=>n)
  (fun b o hc e=>⟨o,k b o (fun z=>hc (by simp[z])) e⟩) (fun _ _ e=>e) (fun _ _ _ e=>e) (fun b ps e=>⟨#[],by rw[e];simp⟩) (fun m hm=>?_) (fun b u e=>?_) I.bare
 . have e:b=it:=by simpa using hb
   subst e;exact⟨h1,hL,h2,h3⟩
 . obtain⟨o,es,ep,ho,r⟩:=hm;exact⟨o,es,ep,k _ o (Ne.symm hL) ho,r⟩
 . refine(I.hok b u e).stay (fun c v hc q=>k c v ?_ q) (fun _ q=>q) fun _ _ q=>q;rcases hc with z|z
   . rw[z];exact a b u e
   . exact a c _ z
theorem Inv.tok(I:Inv X pins σ H s)(t:Nat):Inv X pins σ H {s with toks:=t}:=I.un (h':=s.heap) (t':=t) Un.refl I.hok
theorem Inv.kept{t':Nat}(I:Inv X pins σ H s)(k:∀b u,s.heap.get? b=some u->h'.get? b=some u):Inv X pins σ H {s with heap:=h',toks:=t'}:=I.un (Un.kept k) (I.hok.kept k)
theorem Inv.laid{a:Addr}{o:HO}{t':Nat}(I:Inv X pins σ H s)(k:∀b u,s.heap.get? b=some u->h'.get? b=some u)(hp:s.heap.objs.size<=a)(new:ObjOk X.prog X.w (upd H a o) h' a o):
 Inv X pins σ (upd H a o) {s with heap:=h',toks:=t'}:=I.un (Un.laid k hp (I.hok.fresh hp)) (I.hok.laid k hp new)
theorem Inv.write{x e:Addr}{o:HO}{t':Nat}(I:Inv X pins σ H s)(mu:Mut (H x))(he:e=x\/H e=some (.own x))(k:∀b u,b≠e->s.heap.get? b=some u->h'.get? b=some u)(heo:∃u,h'.get? e=some u)(new:ObjOk X.prog X.w (upd H x o) h' x o):Inv X pins σ (upd H x o) {s with heap:=h',toks:=t'}:=I.un (Un.write mu he k heo) (I.hok.write mu he k heo new)
theorem Inv.weak{σ':List (Option V)}(I:Inv X pins σ H s)(hl:σ'.length=σ.length)(w:∀(i:Nat) v,σ'[i]?=some (some v)->σ[i]?=some (some v)):Inv X pins σ' H s:=
 ⟨I.ok,I.os,I.bare,I.base,let ⟨m,hn,hl'⟩:=I.loc;⟨m,hn,fun i x v e1 e2 a=>hl' i x v e1 (w i v e2) a⟩,I.cell,I.free,I.freeC,I.pin,I.hok,hl.trans I.len⟩
theorem Inv.pins_of{pins':List (Addr×Obj)}(I:Inv X pins σ H s)(h:∀p∈pins',s.heap.get? p.1=some p.2/\H p.1=none/\p.1≠X.env.locals/\p.1∉X.fs/\∀v,p.2.data≠ .cell v):Inv X pins' σ H s:=
 ⟨I.ok,I.os,I.bare,I.base,I.loc,I.cell,I.free,I.freeC,fun p hp=>(zv.mp hp).elim (fun z=>I.pin p (AE _ z)) (h p),I.hok,I.len⟩
theorem jZ{N:List Str}(hN:N.Nodup){i j:Nat}{x:Str}(a:N[i]?=some x)(b:N[j]?=some x):i=j:=by
 obtain⟨h1,e1⟩:=zb.mp a;obtain⟨h2,e2⟩:=zb.mp b;exact(List.getElem_inj hN).mp (e1.trans e2.symm)
theorem iD{M:Model}{A:Around}{E:Value->Shared->Prop}{i:Nat}{x:Str}{v:V}{u:Value}{Q:Unit->Shared->Prop}(I:Inv X pins σ H s)(hN:X.N.Nodup)(hi:X.N[i]?=some x)(hx:Loc X.env.scope x)(r:RelV v u)(h:∀s',Inv X pins (σ.set i (some v)) H s'->(∃a,Heap.SameBut a s.heap s'.heap/\(a=X.env.locals\/X.env.cells.lookup x=some a))->Q () s')(hf:X.fn x=true\/X.env.scope.names.lookup x=some .local:=by first|exact .inl rfl|exact .inr rfl|assumption):wpAny M A (storeName X.env x u) Q E s:=by
 obtain⟨m,hn,hl⟩:=id I.loc;have a1:(X.env.scope.kind== .class ||(X.env.scope.kind== .module&&X.env.locals !=X.env.globals))=false:=by rw[I.ok.kind];rfl
 have aT:i < σ.length:=by rw[I.len];exact(zb.mp hi).1
 have cne:=I.cne
 have f:∀ {a:Addr} {h':Heap},(∃o,s.heap.get? a=some o/\H a=none)->Heap.SameBut a s.heap h'->HOk X.prog X.w H h':=fun{a h'} ha hs b ob e=>by
  obtain⟨_,_,g⟩:=ha;refine(I.hok b ob e).stay (fun c w' hc q=>(hs.2 c ?_).trans q) (fun _ q=>q) fun _ _ q=>q;rintro rfl;rcases hc with rfl|hc
  . rw[g]at e;cases e
  . rw[g]at hc;cases hc
 rcases hx with hk|hk
 . refine wpAny_storeName_local hk hn (fun h' a3 hs=>?_) a1;obtain⟨oL,_,_,a2,_⟩:=id hn;refine h _ ⟨I.ok,I.os,I.bare,⟨fun b o e n hb hx=>?_,fun b o e n hb hx=>?_,I.base.free,fun b o e hx=>?_,I.base.tups,I.base.frzs,I.base.tbls⟩,⟨_,a3,fun j y v' e1 e2 e3=>?_⟩,fun y c e=>?_,I.free,I.freeC,fun p hp=>?_,f ⟨oL,a2,I.free⟩ hs,by simpa using I.len⟩ ⟨_,hs, .inl rfl⟩
   . exact(hs.2 b (zp (zt (Heap.lt_size e) I.ok.above))).trans (I.base.keep b o e n hb hx)
   . obtain⟨sl,e1⟩:=I.base.slot b o e n hb hx;exact⟨sl,(hs.2 b (zp (zt (Heap.lt_size e) I.ok.above))).trans e1⟩
   . obtain⟨o',e1⟩:=I.base.there b o e hx;exact⟨o',(hs.2 b (zp (zt (Heap.lt_size e) I.ok.above))).trans e1⟩
   . by_cases l:j=i
     . subst l;rw[hi]at e1;cases e1;rw[List.getElem?_set_self aT]at e2;cases e2;exact⟨u,r, .inl ⟨hk,by simp⟩⟩
     . rw[List.getElem?_set_ne (Ne.symm l)]at e2;obtain⟨u',r',q⟩:=hl j y v' e1 e2 e3;refine⟨u',r',?_⟩;rcases q with⟨k,e⟩|⟨k,c,e,z⟩
       . refine .inl ⟨k,?_⟩;have:y≠x:=fun e=>l (jZ hN e1 (e▸hi));simp[this,e]
       . exact .inr ⟨k,c,e,z.sameBut hs (cne y c e)⟩
   . obtain⟨w',z⟩:=I.cell y c e;exact⟨w',z.sameBut hs (cne y c e)⟩
   . obtain⟨e,n,ne,nf,d⟩:=I.pin p hp;exact⟨(hs.2 p.1 ne).trans e,n,ne,nf,d⟩
 . have t:X.fn x=true:=by
    rcases hf with z|z
    . exact z
    . rw[z]at hk;cases hk
   obtain⟨c,hc⟩:=I.ok.has x (.inl hk);obtain⟨w',z⟩:=I.cell x c hc;refine wpAny_storeName_cell I.ok.kind hk hc z (fun h' ac hs=>?_);obtain⟨oc,aC,au⟩:=id z;refine h {s with heap:=h'} ⟨I.ok,I.os,I.bare,⟨fun b o e n hb hx=>?_,fun b o e n hb hx=>?_,I.base.free,fun b o e hx=>?_,I.base.tups,I.base.frzs,I.base.tbls⟩,⟨m,hn.sameBut hs (Ne.symm (cne x c hc)),fun j y v' e1 e2 e3=>?_⟩,fun y c' e=>?_,I.free,I.freeC,fun p hp=>?_,f ⟨oc,aC,I.freeC x c hc⟩ hs,by simpa using I.len⟩ ⟨c,hs, .inr hc⟩
   . exact(hs.2 b (zp (zt (Heap.lt_size e) (I.ok.cab x c t hc)))).trans (I.base.keep b o e n hb hx)
   . obtain⟨sl,e1⟩:=I.base.slot b o e n hb hx;exact⟨sl,(hs.2 b (zp (zt (Heap.lt_size e) (I.ok.cab x c t hc)))).trans e1⟩
   . obtain⟨o',e1⟩:=I.base.there b o e hx;exact⟨o',(hs.2 b (zp (zt (Heap.lt_size e) (I.ok.cab x c t hc)))).trans e1⟩
   . by_cases l:j=i
     . subst l;rw[hi]at e1;cases e1;rw[List.getElem?_set_self aT]at e2;cases e2;exact⟨u,r, .inr ⟨.inl hk,c,hc,ac⟩⟩
     . rw[List.getElem?_set_ne (Ne.symm l)]at e2;obtain⟨u',r',q⟩:=hl j y v' e1 e2 e3;refine⟨u',r',?_⟩;rcases q with q|⟨k,c',e,z'⟩
       . exact .inl q
       . refine .inr ⟨k,c',e,z'.sameBut hs ?_⟩;rintro rfl;exact l (jZ hN e1 (I.ok.inj _ _ _ e hc▸hi))
   . by_cases af:c'=c
     . subst af;exact⟨_,ac⟩
     . obtain⟨w2,z2⟩:=I.cell y c' e;exact⟨w2,z2.sameBut hs af⟩
   . obtain⟨e,n,ne,nf,d⟩:=I.pin p hp;refine⟨(hs.2 p.1 ?_).trans e,n,ne,nf,d⟩;intro q;rw[q,aC]at e;have q':oc=p.2:=ze e;exact d w' (by rw[<-q'];exact au)
theorem eK{M:Model}{A:Around}{E:Value->Shared->Prop}{i:Nat}{x:Str}{v:V}{u:Value}{Q:Unit->Shared->Prop}(I:Inv X pins σ H s)(hN:X.N.Nodup)(hi:X.N[i]?=some x)(hx:Loc X.env.scope x)(r:RelV v u)(h:∀s',Inv X pins (σ.set i (some v)) H s'->Q () s')(hf:X.fn x=true\/X.env.scope.names.lookup x=some .local:=by first|exact .inl rfl|exact .inr rfl|assumption):wpAny M A (storeName X.env x u) Q E s:=
 iD I hN hi hx r (fun s' a _=>h s' a) hf
theorem Inv.call'{s':Shared}{ch:List Addr}(I:Inv X pins σ H s)(ho:s'.os=s.os)(u:Un (frs X.stack) ch H H' s.heap s'.heap)(hok:HOk X.prog X.w H' s'.heap)(hg:AllBare s'.gens)(hch:∀b∈ch,(b∈X.ex\/X.s₀.heap.objs.size<=b)/\b≠X.env.locals/\(∀x c,X.env.cells.lookup x=some c->c≠b)/\∀p∈X.pn++pins,p.1≠b):Inv X pins σ H' s':=by
 obtain⟨h',g',d',t',o'⟩:=s';have e:o'=s.os:=ho;subst e;exact I.call (g':=g') (t':=t') (d':=d') u hok hg hch
end
abbrev XK:=Value->Option Addr->Hp->Prop
abbrev St:=List (Option V)
abbrev VK:=V->Hp->Prop
abbrev TE:=St->Hp->VK->Prop
abbrev TT:=St->Hp->(Bool->Hp->Prop)->Prop
abbrev TA:=St->Hp->(List V->Hp->Prop)->Prop
structure Ends where
 nx:St->Hp->Prop
 rt:VK
 bk:St->Hp->Prop:=fun _ _=>False
 ct:St->Hp->Prop:=fun _ _=>False
abbrev TS:=Ends->St->Hp->Prop
def EP(X:Cx)(pins:List (Addr×Obj))(σ:St)(Q:VK)(u:Value)(s':Shared):Prop:=∃v H',Inv X pins σ H' s'/\RelV v u/\Q v H'
def TP(X:Cx)(pins:List (Addr×Obj))(σ:St)(Q:Bool->Hp->Prop)(b:Bool)(s':Shared):Prop:=∃H',Inv X pins σ H' s'/\Q b H'
def AP(X:Cx)(pins:List (Addr×Obj))(σ:St)(Q:List V->Hp->Prop)(us:List Value)(s':Shared):Prop:=∃vs H',Inv X pins σ H' s'/\Vals vs us/\Q vs H'
def SP(X:Cx)(pins:List (Addr×Obj))(D:Ends)(f:Flow)(s':Shared):Prop:=
 match f with
 | .next=>∃σ' H',Inv X pins σ' H' s'/\D.nx σ' H'
 | .brk=>∃σ' H',Inv X pins σ' H' s'/\D.bk σ' H'
 | .cont=>∃σ' H',Inv X pins σ' H' s'/\D.ct σ' H'
 | .ret u=>∃v σ' H',Inv X pins σ' H' s'/\RelV v u/\D.rt v H'
def PE(X:Cx)(e:Expr)(t:TE):Prop:=
 ∀(pins:List (Addr×Obj)) (s:Shared) (σ:St) (H:Hp) (Q:VK),Inv X pins σ H s->t σ H Q->wpAny (model X.prog X.w) X.A (eval e X.env) (EP X pins σ Q) X.xe s
def PT(X:Cx)(e:Expr)(t:TT):Prop:=
 ∀(pins:List (Addr×Obj)) (s:Shared) (σ:St) (H:Hp) (Q:Bool->Hp->Prop),Inv X pins σ H s->t σ H Q->wpAny (model X.prog X.w) X.A (isTrue e X.env (eval e X.env)) (TP X pins σ Q) X.xe s
def PW(X:Cx)(e:Expr)(t:TT):Prop:=
 ∀(whole:Sem Value) (pins:List (Addr×Obj)) (s:Shared) (σ:St) (H:Hp) (Q:Bool->Hp->Prop),Inv X pins σ H s->t σ H Q->wpAny (model X.prog X.w) X.A (isTrue e X.env whole) (TP X pins σ Q) X.xe s
theorem PW.pt{X:Cx}{e:Expr}{t:TT}(h:PW X e t):PT X e t:=h _
def PA(X:Cx)(es:List Expr)(t:TA):Prop:=
 ∀(pos:Pos) (pins:List (Addr×Obj)) (s:Shared) (σ:St) (H:Hp) (Q:List V->Hp->Prop),Inv X pins σ H s->t σ H Q->wpAny (model X.prog X.w) X.A (spliced (backTo pos (starEach es X.env))) (AP X pins σ Q) X.xe s
def PS(X:Cx)(st:Stmt)(t:TS):Prop:=
 ∀(pins:List (Addr×Obj)) (s:Shared) (σ:St) (H:Hp) (D:Ends),Inv X pins σ H s->t D σ H->wpAny (model X.prog X.w) X.A (exec st X.env) (SP X pins D) X.xe s
def PSs(X:Cx)(st:List Stmt)(t:TS):Prop:=
 ∀(pins:List (Addr×Obj)) (s:Shared) (σ:St) (H:Hp) (D:Ends),Inv X pins σ H s->t D σ H->wpAny (model X.prog X.w) X.A (execs st X.env) (SP X pins D) X.xe s
theorem thn{α:Type}{t:Sem α}{Q Q':α->Shared->Prop}{M:Model}{A:Around}{E:Value->Shared->Prop}{s:Shared}(h:wpAny M A t Q E s)(hQ:∀a s,Q a s->Q' a s):wpAny M A t Q' E s:=wpAny_mono h hQ fun _ _ x=>x
open PySem PySem.Spec PyProof.Rows
section
variable{X:Cx}
def tVar(i:Nat):TE:=fun σ H Q=>∃v,σ[i]?=some (some v)/\Q v H
def tC(v:V):TE:=fun _ H Q=>Q v H
theorem rG{i:Nat}{x:Str}{pos:Pos}(hN:X.N[i]?=some x)(hv:Vis X.env.scope x)(hd:(x==("__debug__":Str))=false:=by decide)(hcd:(x==("__classdict__":Str))=false:=by decide):PE X (.Name x pos) (tVar i):=by
 intro pins s σ H Q I h;obtain⟨v,e,h⟩:=h;obtain⟨m,hn,hl⟩:=I.loc;obtain⟨u,r,l⟩:=hl i x v hN e hv;have fin:EP X pins σ Q u s:=⟨v,H,I,r,h⟩;rcases l with⟨hk,hm⟩|⟨hk,c,hc,a⟩
 . exact wpAny_Name (wpAny_loadName_local I.ok.kind hk hn hm fin) hd
 . rcases hk with hk|hk
   . exact wpAny_Name (wpAny_loadName_cell I.ok.kind hk hc a fin) hd
   . exact wpAny_Name (wpAny_loadName_free I.ok.kind hk hc a fin hcd) hd
theorem a9{i j pos}:PE X (.Constant (.int i) j pos) (tC (.int i)):=fun _ _ _ H _ I h=>wpAny_Constant_int ⟨.int i,H,I.tok _,⟨_,rfl⟩,h⟩
theorem eV{b j pos}:PE X (.Constant (.bool b) j pos) (tC (.bl b)):=fun _ _ _ H _ I h=>Constant_bool ⟨.bl b,H,I,rfl,h⟩
theorem lD{j pos}:PE X (.Constant .none j pos) (tC .non):=fun _ _ _ H _ I h=>Constant_none ⟨.non,H,I,rfl,h⟩
theorem cM{x j pos}:PE X (.Constant (.str x) j pos) (tC (.str x)):=fun _ _ _ H _ I h=>Calls.Constant_str ⟨.str x,H,I.tok _,⟨_,rfl⟩,h⟩
def Gl(X:Cx)(x:Str):Prop:=X.env.kindOf x=some .globalImplicit
theorem ni{E:Value->Shared->Prop}{pins:List (Addr×Obj)}{s:Shared}{σ:St}{H:Hp}{x:Str}{u:Value}{pos:Pos}{Q:Value->Shared->Prop}(I:Inv X pins σ H s)(hg:Gl X x)(hm:X.mg x=some u)(h:Q u s)(hd:(x==("__debug__":Str))=false:=by decide):wpAny (model X.prog X.w) X.A (eval (.Name x pos) X.env) Q E s:=
 Calls.Name_function_global I.ok.kind hg (Calls.loadGlobal_global (by rw[I.ok.glob];exact I.mod.glob.keeps I.bk) hm h) hd
theorem eh{E:Value->Shared->Prop}{pins:List (Addr×Obj)}{s:Shared}{σ:St}{H:Hp}{x:Str}{u:Value}{pos:Pos}{Q:Value->Shared->Prop}(I:Inv X pins σ H s)(hg:Gl X x)(hm:X.mg x=none)(hv:bootBuiltins x=some u)(h:Q u s)(hn:x≠"__name__":=by decide)(hd:(x==("__debug__":Str))=false:=by decide):wpAny (model X.prog X.w) X.A (eval (.Name x pos) X.env) Q E s:=by
 obtain⟨mb,h1,h2⟩:=I.mod.blt;exact Calls.Name_function_global I.ok.kind hg (Calls.loadGlobal_builtin (by rw[I.ok.glob];exact I.mod.glob.keeps I.bk) hm (by rw[I.ok.blt];exact h1.keeps I.bk) ((h2 x hn).trans hv) h) hd
theorem df{x:Str}{v:V}{u:Value}{pos:Pos}(hg:Gl X x)(hm:X.mg x=none)(hv:bootBuiltins x=some u)(r:RelV v u)(hn:x≠"__name__":=by decide)(hd:(x==("__debug__":Str))=false:=by decide):PE X (.Name x pos) (tC v):=
 fun _ _ _ H _ I h=>eh I hg hm hv ⟨v,H,I,r,h⟩ hn hd
variable{a b:Expr}{ta tb:TE}{pos:Pos}
def PC(X:Cx)(op:CmpOp)(a b:Expr)(t:TE):Prop:=
 ∀(pins:List (Addr×Obj)) (s:Shared) (σ:St) (H:Hp) (Q:VK),Inv X pins σ H s->t σ H Q->
  wpAny (model X.prog X.w) X.A (eval a X.env) (fun v s₁=>wpAny (model X.prog X.w) X.A (eval b X.env) (fun u s₂=>wpAny (model X.prog X.w) X.A (compareOp op v u) (EP X pins σ Q) X.xe s₂) X.xe s₁) X.xe s
theorem se(b:Expr){op:CmpOp}(h:op≠ .In)(h2:op≠ .NotIn):behindInMarks op b=false:=by
 have e1:(op==CmpOp.In)=false:=by cases op<;>first|rfl|exact absurd rfl h
 have e2:(op==CmpOp.NotIn)=false:=by cases op<;>first|rfl|exact absurd rfl h2
 cases b<;>simp[behindInMarks,e1,e2]
def ye(ta:TE):TE:=fun σ H Q=>ta σ H fun x H1=>Q (.bl (!decide (x= .non))) H1
theorem RelV.none_iff{x:V}{v:Value}(r:RelV x v):(v==Value.none)=decide (x= .non):=by
 cases x with
 |non=>cases r;rfl
 |bl _=>cases r;rfl
 |int _=>obtain⟨t,rfl⟩:=r;rfl
 |str _=>obtain⟨t,rfl⟩:=r;rfl
 |byt _=>obtain⟨t,rfl⟩:=r;rfl
 |flt _=>obtain⟨t,rfl⟩:=r;rfl
 |ref _=>cases r;rfl
 |ty _=>cases r;rfl
theorem uE{j pos'}(ha:PE X a ta):PC X .IsNot a (.Constant .none j pos') (ye ta):=by
 intro pins s σ H Q I h;refine thn (ha pins s σ H _ I h) fun v s1 ⟨x,H1,c,r1,b⟩=>?_;exact Constant_none (isnot_none_gen ⟨.bl _,H1,c,by rw[r1.none_iff];rfl,b⟩)
def tB(t:TE):TT:=fun σ H Q=>t σ H fun x H1=>∃c,x= .bl c/\Q c H1
theorem wo{op:CmpOp}{t:TE}(h:PC X op a b t)(h1:behindInMarks op b=false:=by first|exact se _ (by decide) (by decide)|rfl):PT X (.Compare a [op] [b] pos) (tB t):=by
 intro pins s σ H Q I hw;refine wpAny_isTrue_Compare1 (thn (h pins s σ H _ I hw) fun v s1 h1=>thn h1 fun u g h2=>thn h2 fun c i ⟨x,H1,f,r1,e⟩=>?_) h1;obtain⟨d,rfl,q⟩:=e;cases r1;exact wpAny_truthy_bool ⟨H1,f,q⟩
theorem cD{e:Expr}{t:TE}(h:PE X e t)(he:∀whole,isTrue e X.env whole=(do let v<-whole;standAt e.pos;holding [v] (truthy v)):=by intro _;rfl):PT X e (tB t):=by
 intro pins s σ H Q I hw;refine isTrue_plain (thn (h pins s σ H _ I hw) fun v s1 ⟨x,H1,b,r1,a⟩=>?_) (he _);obtain⟨d,rfl,q⟩:=a;cases r1;exact wpAny_truthy_bool ⟨H1,b,q⟩
variable{tA tB':TT}{rest:List Expr}
def tAnd(t u:TT):TT:=fun σ H Q=>t σ H fun c H1=>if c=true then u σ H1 Q else Q false H1
def tOr(t u:TT):TT:=fun σ H Q=>t σ H fun c H1=>if c=true then Q true H1 else u σ H1 Q
def tNot(t:TT):TT:=fun σ H Q=>t σ H fun c H1=>Q (!c) H1
theorem cZ(ha:PT X a tA):PW X (.BoolOp .And [a] pos) tA:=by
 intro wh pins s σ H Q I h;refine isTrue_and (thn (ha pins s σ H Q I h) fun c s1 e=>?_)
 cases c with
 |true=>exact isTrue_and_nil e
 |false=>exact e
theorem fw(ha:PT X a tA):PW X (.BoolOp .Or [a] pos) tA:=by
 intro wh pins s σ H Q I h;refine isTrue_or (thn (ha pins s σ H Q I h) fun c s1 e=>?_)
 cases c with
 |false=>exact isTrue_or_nil e
 |true=>exact e
theorem dc(ha:PT X a tA)(hb:PW X (.BoolOp .And (b::rest) pos) tB'):PW X (.BoolOp .And (a::b::rest) pos) (tAnd tA tB'):=by
 intro wh pins s σ H Q I h;refine isTrue_and (thn (ha pins s σ H _ I h) fun c s1 ⟨H1,e,d⟩=>?_)
 cases c with
 |true=>exact hb wh pins s1 σ H1 Q e d
 |false=>exact⟨H1,e,d⟩
theorem dU(ha:PT X a tA)(hb:PW X (.BoolOp .Or (b::rest) pos) tB'):PW X (.BoolOp .Or (a::b::rest) pos) (tOr tA tB'):=by
 intro wh pins s σ H Q I h;refine isTrue_or (thn (ha pins s σ H _ I h) fun c s1 ⟨H1,e,d⟩=>?_)
 cases c with
 |true=>exact⟨H1,e,d⟩
 |false=>exact hb wh pins s1 σ H1 Q e d
theorem e9(ha:PT X a tA):PT X (.UnaryOp .Not a pos) (tNot tA):=by
 intro pins s σ H Q I h;exact isTrue_not (ha pins s σ H (fun c H1=>Q (!c) H1) I h)
def yj(ta tb:TE):TE:=fun σ H Q=>ta σ H fun x H1=>∃c,x= .bl c/\if c=true then tb σ H1 Q else Q (.bl false) H1
def tOrV(ta tb:TE):TE:=fun σ H Q=>ta σ H fun x H1=>∃c,x= .bl c/\if c=true then Q (.bl true) H1 else tb σ H1 Q
def yd(ta:TE):TE:=fun σ H Q=>ta σ H fun x H1=>∃c,x= .bl c/\Q (.bl (!c)) H1
theorem dA{op}{t:TE}(h:PE X a t):PE X (.BoolOp op [a] pos) t:=fun pins s σ H Q I hw=>BoolOp_one (h pins s σ H Q I hw)
theorem dg(ha:PE X a ta)(hb:PE X (.BoolOp .And (b::rest) pos) tb):PE X (.BoolOp .And (a::b::rest) pos) (yj ta tb):=by
 intro pins s σ H Q I h;refine BoolOp_and (thn (ha pins s σ H _ I h) fun v s1 ⟨x,H1,e,r1,d⟩=>?_);obtain⟨c,rfl,d⟩:=d;cases r1;refine wpAny_truthy_bool ?_
 cases c with
 |true=>exact hb pins s1 σ H1 Q e d
 |false=>exact⟨.bl false,H1,e,rfl,d⟩
theorem vF(ha:PE X a ta)(hb:PE X (.BoolOp .Or (b::rest) pos) tb):PE X (.BoolOp .Or (a::b::rest) pos) (tOrV ta tb):=by
 intro pins s σ H Q I h;refine BoolOp_or (thn (ha pins s σ H _ I h) fun v s1 ⟨x,H1,e,r1,d⟩=>?_);obtain⟨c,rfl,d⟩:=d;cases r1;refine wpAny_truthy_bool ?_
 cases c with
 |false=>exact hb pins s1 σ H1 Q e d
 |true=>exact⟨.bl true,H1,e,rfl,d⟩
theorem wu(ha:PE X a ta):PE X (.UnaryOp .Not a pos) (yd ta):=by
 intro pins s σ H Q I h;refine UnaryOp_ (thn (ha pins s σ H _ I h) fun v s1 ⟨x,H1,d,r1,b⟩=>?_);obtain⟨c,rfl,b⟩:=b;cases r1;exact not_of (wpAny_truthy_bool ⟨.bl (!c),H1,d,rfl,b⟩)
def tIf(t:TT)(ta tb:TE):TE:=fun σ H Q=>t σ H fun c H1=>if c=true then ta σ H1 Q else tb σ H1 Q
theorem dB{c:Expr}(hc:PT X c tA)(ha:PE X a ta)(hb:PE X b tb):PE X (.IfExp c a b pos) (tIf tA ta tb):=by
 intro pins s σ H Q I h;refine wpAny_IfExp (thn (hc pins s σ H _ I h) fun d s1 ⟨H1,f,e⟩=>?_)
 cases d with
 |true=>exact ha pins s1 σ H1 Q f e
 |false=>exact hb pins s1 σ H1 Q f e
end
open PySem PySem.Spec PyProof.Rows
def SqL(K:PySem.W.Frag)(H:Hp)(a:Addr)(xs:List V):Prop:=
 Rd H a (.lst xs)\/
  ∃(o:Obj) (its:Array Value) (n:Nat),K.lookup a=some o/\o.cls= .type "list"/\o.dict=none/\o.data= .seq its n/\its.size<=sizeLine/\Vals xs its.toList
def SqT(K:PySem.W.Frag)(H:Hp)(a:Addr)(xs:List V):Prop:=
 Rd H a (.tup xs)\/
  ∃(o:Obj) (its:Array Value) (n:Nat),K.lookup a=some o/\o.cls= .type "tuple"/\o.data= .seq its n/\its.size<=sizeLine/\Vals xs its.toList
noncomputable def absV:Value->Option V
 | .none=>some .non
 | .bool b=>some (.bl b)
 | .int i _=>some (.int i)
 | .str x _=>some (.str x)
 | .bytes b _=>some (.byt b)
 | .float b _=>some (.flt b)
 | .ref a=>some (.ref a)
 | .type n=>some (.ty n)
 |_=>none
theorem RelV.abs{x:V}{u:Value}(r:RelV x u):absV u=some x:=by
 cases x with
 |non=>cases r;rfl
 |bl _=>cases r;rfl
 |int _=>obtain⟨t,rfl⟩:=r;rfl
 |str _=>obtain⟨t,rfl⟩:=r;rfl
 |byt _=>obtain⟨t,rfl⟩:=r;rfl
 |flt _=>obtain⟨t,rfl⟩:=r;rfl
 |ref _=>cases r;rfl
 |ty _=>cases r;rfl
theorem RelV.inj{x y:V}{u:Value}(r:RelV x u)(q:RelV y u):x=y:=ze (r.abs.symm.trans q.abs)
theorem Vals.inj:∀ {xs ys:List V} {us:List Value},Vals xs us->Vals ys us->xs=ys
 |_,_,_, .nil, .nil=>rfl
 |_,_,_, .cons r t, .cons r' t'=>by rw[r.inj r',Vals.inj t t']
section
variable{X:Cx}{pins:List (Addr×Obj)}{σ:St}{H:Hp}{s:Shared}{a:Addr}{xs ys:List V}
theorem SqL.of{K:PySem.W.Frag}(h:H a=some (.lst xs)):SqL K H a xs:= .inl (.inl h)
theorem SqT.of{K:PySem.W.Frag}(h:H a=some (.tup xs)):SqT K H a xs:= .inl (.inl h)
theorem Inv.list(I:Inv X pins σ H s)(h:SqL X.K H a xs):∃its:List Value,Vals xs its/\PlainL s.heap a its.toArray/\xs.length<=sizeLine:=by
 rcases h with h|⟨o,its,n,hk,hc,hd,hs,hz,r⟩
 . obtain⟨z,its,n,r,e⟩:=h.ok I.hok;exact⟨its,r,⟨_,n,e,rfl,rfl,rfl⟩,z⟩
 . refine⟨its.toList,r,⟨o,n,I.kIn a o hk,hc,hd,by simpa using hs⟩,?_⟩
   have e:=r.length;simp only[zO]at e;omega
theorem Inv.tuple(I:Inv X pins σ H s)(h:SqT X.K H a xs):∃its:List Value,Vals xs its/\IsTup s.heap a its.toArray/\xs.length<=sizeLine:=by
 rcases h with h|⟨o,its,n,hk,hc,hs,hz,r⟩
 . obtain⟨z,its,r,p⟩:=h.ok I.hok;exact⟨its,r,p,z⟩
 . refine⟨its.toList,r,⟨o,I.kIn a o hk,hc,n,by simpa using hs⟩,?_⟩
   have e:=r.length;simp only[zO]at e;omega
theorem Inv.list_inj(I:Inv X pins σ H s)(h:SqL X.K H a xs)(h':SqL X.K H a ys):xs=ys:=by
 obtain⟨its,r,⟨o,n,e,_,_,d⟩,_⟩:=I.list h;obtain⟨its',r',⟨o',b,e',_,_,d'⟩,_⟩:=I.list h';rw[e]at e';cases e';rw[d]at d';injection d' with d1 _;have:its=its':=by simpa using congrArg Array.toList d1
 subst this;exact r.inj r'
theorem Inv.tuple_inj(I:Inv X pins σ H s)(h:SqT X.K H a xs)(h':SqT X.K H a ys):xs=ys:=by
 obtain⟨its,r,⟨o,e,_,n,d⟩,_⟩:=I.tuple h;obtain⟨its',r',⟨o',e',_,b,d'⟩,_⟩:=I.tuple h';rw[e]at e';cases e';rw[d]at d';injection d' with d1 _;have:its=its':=by simpa using congrArg Array.toList d1
 subst this;exact r.inj r'
end
abbrev Cx.wish(X:Cx)(E:Value->Shared->Prop):Cx:= {X with xe:=E}
abbrev Cx.nox(X:Cx):Cx:=X.wish fun _ _=>False
theorem Cx.Ok.wish{X:Cx}(ok:X.Ok)(E:Value->Shared->Prop):(X.wish E).Ok:=
 ⟨ok.mod,ok.kind,ok.glob,ok.blt,ok.above,ok.inj,ok.has,ok.cab,ok.hd,ok.frames,ok.stk,ok.exf,ok.bs,ok.bsz,ok.noex,ok.exfs,ok.funs,ok.frf⟩
theorem Cx.Ok.unwish{X:Cx}{E:Value->Shared->Prop}(ok:(X.wish E).Ok):X.Ok:=
 ⟨ok.mod,ok.kind,ok.glob,ok.blt,ok.above,ok.inj,ok.has,ok.cab,ok.hd,ok.frames,ok.stk,ok.exf,ok.bs,ok.bsz,ok.noex,ok.exfs,ok.funs,ok.frf⟩
section
variable{X:Cx}{pins:List (Addr×Obj)}{σ:St}{H:Hp}{s:Shared}{E:Value->Shared->Prop}
theorem Inv.wish(I:Inv X pins σ H s)(E:Value->Shared->Prop):Inv (X.wish E) pins σ H s:=⟨I.ok.wish E,I.os,I.bare,I.base,I.loc,I.cell,I.free,I.freeC,I.pin,I.hok,I.len⟩
theorem Inv.unwish(I:Inv (X.wish E) pins σ H s):Inv X pins σ H s:=⟨I.ok.unwish,I.os,I.bare,I.base,I.loc,I.cell,I.free,I.freeC,I.pin,I.hok,I.len⟩
theorem SP.unwish{D:Ends}{f:Flow}{s':Shared}(h:SP (X.wish E) pins D f s'):SP X pins D f s':=by
 cases f with
 |next=>obtain⟨σ',H',I,q⟩:=h;exact⟨σ',H',I.unwish,q⟩
 |brk=>obtain⟨σ',H',I,q⟩:=h;exact⟨σ',H',I.unwish,q⟩
 |cont=>obtain⟨σ',H',I,q⟩:=h;exact⟨σ',H',I.unwish,q⟩
 |ret u=>obtain⟨v,σ',H',I,r,q⟩:=h;exact⟨v,σ',H',I.unwish,r,q⟩
theorem PSs.nox{st:List Stmt}{t:TS}(h:PSs X.nox st t):PSs X st t:=fun pins s σ H D I hw=>
 wpAny_mono (h pins s σ H D (I.wish _) hw) (fun _ _ q=>q.unwish) fun _ _ z=>False.elim z
end
section
variable{X:Cx}{st:Stmt}{rest:List Stmt}{t u:TS}{e:Expr}{te:TE}{pos:Pos}
def vz:TS:=fun D σ H=>D.nx σ H
def tSeq(t u:TS):TS:=fun D σ H=>t {D with nx:=u D} σ H
theorem aO:PSs X [] vz:=fun _ _ σ H _ I h=>wpAny_execs_nil ⟨σ,H,I,h⟩
theorem ad(h1:PS X st t)(h2:PSs X rest u):PSs X (st::rest) (tSeq t u):=by
 intro pins s σ H D I h;refine wpAny_execs_cons (thn (h1 pins s σ H {D with nx:=u D} I h) fun f s1 q=>?_)
 cases f with
 |next=>
  obtain⟨σ',H',a,q⟩:=q;exact h2 pins s1 σ' H' D a q
 |ret v=>exact q
 |brk=>exact q
 |cont=>exact q
theorem ai(h1:PS X st t):PSs X [st] t:=by
 intro pins s σ H D I h;refine wpAny_execs_cons (thn (h1 pins s σ H D I h) fun f s1 q=>?_)
 cases f with
 |next=>exact wpAny_execs_nil q
 |ret v=>exact q
 |brk=>exact q
 |cont=>exact q
theorem Inv.quiet{pins:List (Addr×Obj)}{σ:St}{H:Hp}{s:Shared}(I:Inv X pins σ H s):interactive X.env=false:=by simp[interactive,I.ok.kind]
def yh(te:TE):TS:=fun D σ H=>te σ H fun _ H1=>D.nx σ H1
theorem cA(he:PE X e te)(hs:swapsWith e none pos.line X.env=pure false:=by rfl):PS X (.Expr e pos) (yh te):=by
 intro pins s σ H D I h;exact wpAny_Expr_any (thn (he pins s σ H _ I h) fun v s1 ⟨x,H1,b,r1,a⟩=>⟨σ,H1,b,a⟩) I.quiet hs
def tRet(te:TE):TS:=fun D σ H=>te σ H D.rt
theorem az(he:PE X e te):PS X (.Return (some e) pos) (tRet te):=by
 intro pins s σ H D I h;exact wpAny_Return_some (thn (he pins s σ H _ I h) fun v s1 ⟨x,H1,b,r1,a⟩=>⟨x,σ,H1,b,r1,a⟩)
def tIfS(c:TT)(t u:TS):TS:=fun D σ H=>c σ H fun b H1=>if b=true then t D σ H1 else u D σ H1
theorem bG{c:Expr}{a b:List Stmt}{tc:TT}(hc:PT X c tc)(ha:PSs X a t)(hb:PSs X b u):PS X (.If c a b pos) (tIfS tc t u):=by
 intro pins s σ H D I h;refine wpAny_If (thn (hc pins s σ H _ I h) fun d s1 ⟨H1,f,e⟩=>?_)
 cases d with
 |true=>exact ha pins s1 σ H1 D f e
 |false=>exact hb pins s1 σ H1 D f e
end
abbrev TG:=V->St->Hp->(St->Hp->Prop)->Prop
abbrev TGs:=List V->St->Hp->(St->Hp->Prop)->Prop
def PG(X:Cx)(target:Expr)(t:TG):Prop:=
 ∀(pins:List (Addr×Obj)) (s:Shared) (σ:St) (H:Hp) (v:V) (u:Value) (Q:St->Hp->Prop),Inv X pins σ H s->RelV v u->t v σ H Q->
  wpAny (model X.prog X.w) X.A (assign target X.env u) (fun _ s'=>∃σ' H',Inv X pins σ' H' s'/\Q σ' H') X.xe s
def PGs(X:Cx)(ts:List Expr)(t:TGs):Prop:=
 ∀(pins:List (Addr×Obj)) (s:Shared) (σ:St) (H:Hp) (vs:List V) (us:List Value) (Q:St->Hp->Prop),Inv X pins σ H s->Vals vs us->t vs σ H Q->
  wpAny (model X.prog X.w) X.A (assignInOrder ((assignEach ts X.env).map (·.2)) us) (fun _ s'=>∃σ' H',Inv X pins σ' H' s'/\Q σ' H') X.xe s
abbrev TSet:=V->V->V->Hp->(Hp->Prop)->Prop
def PSet(X:Cx)(t:TSet):Prop:=
 ∀(pins:List (Addr×Obj)) (s:Shared) (σ:St) (H:Hp) (o i v:V) (ov iv u:Value) (Q:Hp->Prop),Inv X pins σ H s->RelV o ov->RelV i iv->RelV v u->t o i v H Q->
  wpAny (model X.prog X.w) X.A (setItem ov iv u) (fun _ s'=>∃H',Inv X pins σ H' s'/\Q H') X.xe s
section
variable{X:Cx}{pos:Pos}
def aJ(i:Nat):TG:=fun v σ H Q=>Q (σ.set i (some v)) H
theorem jh{i:Nat}{x:Str}(hN:X.N.Nodup)(hi:X.N[i]?=some x)(hx:Loc X.env.scope x)(hf:X.fn x=true\/X.env.scope.names.lookup x=some .local:=by first|exact .inl rfl|exact .inr rfl|assumption):PG X (.Name x pos) (aJ i):=by
 intro pins s σ H v u Q I r h;exact wpAny_assign_Name (eK I hN hi hx r (fun s' a=>⟨_,H,a,h⟩) hf)
def gNil:TGs:=fun vs σ H Q=>vs= []/\Q σ H
def be(t:TG)(u:TGs):TGs:=fun vs σ H Q=>∃v r,vs=v::r/\t v σ H fun σ' H'=>u r σ' H' Q
theorem aV:PGs X [] gNil:=by
 intro pins s σ H vs us Q I r h;obtain⟨e,h⟩:=h;subst e;cases r;exact assignInOrder_nil ⟨σ,H,I,h⟩
theorem aq{e:Expr}{es:List Expr}{t:TG}{u:TGs}(h1:PG X e t)(h2:PGs X es u)(hs:(assignEach (e::es) X.env).map (·.2)=assign e X.env::(assignEach es X.env).map (·.2):=by rfl):PGs X (e::es) (be t u):=by
 intro pins s σ H vs us Q I r h;obtain⟨v,f,e1,h⟩:=h;subst e1
 cases r with
 |cons r c=>
  rw[hs];refine assignInOrder_cons (thn (h1 pins s σ H _ _ _ I r h) fun _ s1 ⟨d,H1,b,a⟩=>?_);exact h2 pins s1 d H1 _ _ Q b c a
def gTup(K:PySem.W.Frag)(n:Nat)(t:TGs):TG:=fun v σ H Q=>∃a xs,v= .ref a/\SqT K H a xs/\xs.length=n/\t xs σ H Q
theorem bh{es:List Expr}{k:Nat}{t:TGs}{n:Nat}(hc:X.calm=true)(h:PGs X es t)(hn:(assignEach es X.env).length=n:=by rfl)(hst:(assignEach es X.env).findIdx? (·.1)=none:=by rfl):PG X (.Tuple es k pos) (gTup X.K n t):=by
 intro pins s σ H v u Q I r hw;obtain⟨a,xs,e1,hq,hl,hw⟩:=hw;subst e1;cases r;obtain⟨its,rv,ht,hz⟩:=I.tuple hq;refine assign_Tuple_tuple (I.ok.hd hc) ht (by simp[hn,<-hl,rv.length]) hst fun h' hx=>?_
 have c:Inv X pins σ H {s with heap:=h'}:=I.kept (t':=s.toks) fun b o e=>hx b o (zp (Heap.lt_size e)) e;exact h pins _ σ H xs _ Q c (by simpa using rv) hw
def gSub(to ti:TE)(t:TSet):TG:=fun v σ H Q=>to σ H fun o H1=>ti σ H1 fun i H2=>t o i v H2 fun H3=>Q σ H3
theorem gT{o i:Expr}{to ti:TE}{t:TSet}(ho:PE X o to)(hi:PE X i ti)(hs:PSet X t)(ha:∀v,assign (.Subscript o i pos) X.env v=(do
  let ov<-holding [v] (eval o X.env)
  let iv<-holding [v,ov] (eval i X.env)
  standAt pos
  holding [v,ov,iv] (setItem ov iv v)
  release [v,ov,iv] []):=by intro _;rfl):PG X (.Subscript o i pos) (gSub to ti t):=by
 intro pins s σ H v u Q I r h;rw[ha];refine wpAny_bind (wpAny_holding (thn (ho pins s σ H _ I h) fun ov s1 ⟨x,H1,d,r1,a⟩=>?_));refine wpAny_bind (wpAny_holding (thn (hi pins s1 σ H1 _ d a) fun iv c ⟨y,H2,g,r2,f⟩=>?_));refine wpAny_bind (wpAny_standAt (wpAny_bind (wpAny_holding (thn (hs pins c σ H2 x y v ov iv u _ g r1 r2 r f) fun _ j ⟨H3,b,e⟩=>?_))));exact wpAny_release ⟨σ,H3,b,e⟩
def tAsg(te:TE)(g:TG):TS:=fun D σ H=>te σ H fun x H1=>g x σ H1 D.nx
theorem fz{tg e:Expr}{te:TE}{g:TG}(he:PE X e te)(hg:PG X tg g)(hs:swapsWithSole [tg] e pos.line X.env=pure false:=by rfl)(hw:swappedStores [tg] e X.env=pure none:=by rfl)(h1:(assignEach [tg] X.env).map (·.2)= [assign tg X.env]:=by rfl):PS X (.Assign [tg] e pos) (tAsg te g):=by
 intro pins s σ H D I h;refine wpAny_Assign_stores (thn (he pins s σ H _ I h) fun v s1 ⟨x,H1,b,r1,a⟩=>?_) hs hw;rw[h1];exact thn (hg pins s1 σ H1 x v _ b r1 a) fun _ c q=>q
theorem rC{i:Nat}{x:Str}{e:Expr}{te:TE}{pos':Pos}(hN:X.N.Nodup)(hi:X.N[i]?=some x)(hx:Loc X.env.scope x)(he:PE X e te)(hs:swapsWith e (some (.Name x pos')) pos.line X.env=pure false:=by rfl)(hf:X.fn x=true\/X.env.scope.names.lookup x=some .local:=by first|exact .inl rfl|exact .inr rfl|assumption):
 PS X (.Assign [.Name x pos'] e pos) (tAsg te (aJ i)):=by
 intro pins s σ H D I h;refine wpAny_Assign_Name (thn (he pins s σ H _ I h) fun v s1 ⟨y,H1,b,r1,a⟩=>?_) hs;exact eK b hN hi hx r1 (fun d c=>⟨_,H1,c,a⟩) hf
def tPar(i j:Nat)(ta:TA):TS:=fun D σ H=>ta σ H fun vs H1=>∃v w,vs= [v,w]/\D.nx ((σ.set i (some v)).set j (some w)) H1
theorem rD{i j:Nat}{x y:Str}{a b:Expr}{ta:TA}{px py pt:Pos}{kt k2 pt2}(hc:X.calm=true)(hN:X.N.Nodup)(hi:X.N[i]?=some x)(hj:X.N[j]?=some y)(hij:i≠j)(hx:X.env.scope.names.lookup x=some .local)(hy:X.env.scope.names.lookup y=some .local)(ha:PA X [a,b] ta)(hw:swappedStores [.Tuple [.Name x px, .Name y py] kt pt] (.Tuple [a,b] k2 pt2) X.env=pure (some [x,y]))(hs:swapsWithSole [.Tuple [.Name x px, .Name y py] kt pt] (.Tuple [a,b] k2 pt2) pos.line X.env=pure false:=by rfl):
 PS X (.Assign [.Tuple [.Name x px, .Name y py] kt pt] (.Tuple [a,b] k2 pt2) pos) (tPar i j ta):=by
 intro pins s σ H D I h;rw[exec_Assign_arm];refine wpAny_bind (wpAny_standAt ?_);rw[hs];refine wpAny_bind (wpAny_pure ?_);rw[if_neg (by decide)]
 refine wpAny_bind (Tuple_ (thn (ha _ pins s σ H _ I h) fun us s1 ⟨vs,H1,n,r1,f⟩=>?_));obtain⟨v,w,e1,f⟩:=f;subst e1
 obtain⟨c,d,rfl,rv,g⟩:∃c d,us= [c,d]/\RelV v c/\RelV w d:=by
  cases r1 with
  |cons p q=>
   cases q with
   |cons m r=>
    cases r;exact⟨_,_,rfl,p,m⟩
 refine wpAny_newObj_type ?_ (by show 2<=sizeLine;decide)
 have t:Inv X pins σ H1 {s1 with heap:=s1.heap.push {cls:= .type "tuple",data:= .seq [c,d].toArray}}:=n.kept (t':=s1.toks) fun b o e=>Heap.get?_push_of_some _ e;rw[hw];refine wpAny_bind (wpAny_pure ?_);show wpAny (model X.prog X.w) X.A (do rule "assign.swapped-stores";let items<-unpackItems (.ref s1.heap.objs.size) 2 none;assignInOrder [fun v=>bindName X.env y v,fun v=>bindName X.env x v] items.reverse;pure Flow.next) _ _ _
 refine wpAny_bind (wpAny_rule (wpAny_bind (unpackItems_tuple (items:= #[c,d]) (I.ok.hd hc) (IsTup.new s1.heap _) fun h' hx'=>?_)));have l:=t.kept (h':=h') (t':=s1.toks) fun b o e=>hx' b o (zp (Heap.lt_size e)) e;show wpAny _ _ (assignInOrder [fun v=>bindName X.env y v,fun v=>bindName X.env x v] [d,c] >>=fun _=>pure Flow.next) _ _ _;refine wpAny_bind (assignInOrder_cons (wpAny_bindName (eK l hN hj (.inl hy) g (fun z u=>?_) (.inr hy))));refine assignInOrder_cons (wpAny_bindName (eK u hN hi (.inl hx) rv (fun s3 k=>assignInOrder_nil (wpAny_pure ?_)) (.inr hx)));rw[List.set_comm _ _ (Ne.symm hij)]at k;exact⟨_,H1,k,f⟩
def pK(c:TT)(tb:TS):TS:=fun D σ H=>∃W:Nat->St->Hp->Prop,(∃m,W m σ H)/\∀m σ H,W m σ H->
 c σ H fun b H1=>if b=true then∃N:St->Hp->Prop,(∀σ' H',N σ' H'->∃m',m' < m/\W m' σ' H')/\tb {D with nx:=N,ct:=N,bk:=D.nx} σ H1 else D.nx σ H1
theorem gQ{c:Expr}{body:List Stmt}{tc:TT}{tb:TS}(hp:PassesOwn (model X.prog X.w) X.A X.env X.xe)(hc:PT X c tc)(hb:PSs X body tb):PS X (.While c body [] pos) (pK tc tb):=by
 intro pins s σ H D I h;obtain⟨W,⟨r,p⟩,turn⟩:=h;refine wpAny_While (codeAny_whileLoop (fun n s'=>∃σ' H',Inv X pins σ' H' s'/\W n σ' H') ?_ r ⟨σ,H,I,p⟩);rintro n s1 ⟨d,H1,o,q⟩;refine wpAny_passesOwn hp (thn (hc pins s1 d H1 _ o (turn n d H1 q)) fun b m ⟨H2,l,g⟩=>?_)
 cases b with
 |true=>
  obtain⟨N,k,g⟩:=g;rw[if_pos rfl];refine wpAny_passesOwn hp (thn (hb pins m d H2 _ l g) fun f t e=>?_)
  cases f with
  |next=>
   obtain⟨a,H3,i,n3⟩:=e;obtain⟨m',hm,j⟩:=k a H3 n3;exact⟨m',hm,a,H3,i,j⟩
  |cont=>
   obtain⟨a,H3,i,n3⟩:=e;obtain⟨m',hm,j⟩:=k a H3 n3;exact⟨m',hm,a,H3,i,j⟩
  |brk=>exact e
  |ret v=>exact e
 |false=>
  rw[if_neg zo];exact wpAny_execs_nil ⟨d,H2,l,g⟩
end
structure It where
 go:Nat->Hp->Prop
 yld:Nat->Hp->V->Hp->Prop
 stop:Nat->Hp->Prop
def FpOk(X:Cx)(pins:List (Addr×Obj))(H:Hp)(b:Addr):Prop:=
 H b=none/\b≠X.env.locals/\b∉X.fs/\(b∈X.ex\/X.s₀.heap.objs.size<=b)/\(∀x c,X.env.cells.lookup x=some c->c≠b)/\∀p∈X.pn++pins,p.1≠b
theorem Inv.fpOk{X:Cx}{pins:List (Addr×Obj)}{σ:St}{H H':Hp}{s:Shared}{b:Addr}(I:Inv X pins σ H s)(hb:s.heap.objs.size<=b)(hn:H' b=none):FpOk X pins H' b:=by
 refine⟨hn,Nat.ne_of_gt (zt I.lt hb),I.nofs hb, .inr (zh I.sz hb),fun x c e z=>?_,fun p hp z=>?_⟩
 . obtain⟨v,q⟩:=I.cell x c e;exact absurd (zt q.lt (by rw[z];exact hb)) (AH _)
 . exact absurd (zt (Heap.lt_size (I.pin p hp).1) (by rw[z];exact hb)) (AH _)
structure Turn (P:Program) (w:World) (K:PySem.W.Frag) (tg:Expr) (J:It) (fp:List Addr) (it:Addr) (tn:Nat->Heap->Prop):Prop where
 mem:it∈fp
 obj:∀i h,tn i h->∀b∈fp,∃o,h.get? b=some o/\∀v,o.data≠ .cell v
 keep:∀i h h',tn i h->(∀b∈fp,∀o,h.get? b=some o->h'.get? b=some o)->tn i h'
 item:∀(X:Cx),X.prog=P->X.w=w->X.K=K->X.calm=true->∀(i:Nat) (pins:List (Addr×Obj)) (s:Shared) (σ:St) (H:Hp) (E:Value->Shared->Prop),Inv X pins σ H s->(∀b∈fp,FpOk X pins H b)->tn i s.heap->J.go i H->
  wpAny (model P w) X.A (pyNext (.ref it)) (fun r s1=>∃u,r=some u/\
   wpAny (model P w) X.A (letOwnedTupleGo tg (.ref it) u) (fun _ s2=>∃x H',Inv X pins σ H' s2/\RelV x u/\J.yld i H x H'/\tn (i+1) s2.heap/\∀b∈fp,H' b=none) E s1) E s
 done:∀(X:Cx),X.prog=P->X.w=w->X.K=K->X.calm=true->∀(i:Nat) (pins:List (Addr×Obj)) (s:Shared) (σ:St) (H:Hp) (E:Value->Shared->Prop),Inv X pins σ H s->(∀b∈fp,FpOk X pins H b)->tn i s.heap->J.stop i H->
  wpAny (model P w) X.A (pyNext (.ref it)) (fun r s1=>r=none/\Inv X pins σ H s1) E s
 self:∀(A:Around) (i:Nat) (s:Shared) (Q:Value->Shared->Prop) (E:Value->Shared->Prop),tn i s.heap->Q (.ref it) s->wpAny (model P w) A (pyIter (.ref it)) Q E s
abbrev TI:=St->Hp->(It->Hp->Prop)->Prop
def PIE(X:Cx)(pins:List (Addr×Obj))(σ:St)(tg:Expr)(R:It->Hp->Prop)(itv:Value)(s2:Shared):Prop:=
 ∃(it:Addr) (fp:List Addr) (tn:Nat->Heap->Prop) (J:It) (H':Hp),itv= .ref it/\Inv X pins σ H' s2/\Turn X.prog X.w X.K tg J fp it tn/\tn 0 s2.heap/\(∀b∈fp,FpOk X pins H' b)/\R J H'
def PI(X:Cx)(tg iter:Expr)(wi:TI):Prop:=
 ∀(pins:List (Addr×Obj)) (s:Shared) (σ:St) (H:Hp) (R:It->Hp->Prop),Inv X pins σ H s->wi σ H R->
  wpAny (model X.prog X.w) X.A (eval iter X.env) (fun v s1=>wpAny (model X.prog X.w) X.A (pyIter v) (PIE X pins σ tg R) X.xe s1) X.xe s
theorem nI{M:Model}{A:Around}{E:Value->Shared->Prop}{s:Shared}{tg:Expr}{it:Addr}{u:Value}{o:Obj}{n:String}{vs:Array Value}{Q:Unit->Shared->Prop}(ho:s.heap.get? it=some o)(hc:o.cls= .type n)(hd:o.data= .fields vs)(hn: ["enumerate","zip","dict_itemiterator","dict_reverseitemiterator","odict_iterator","itertools.zip_longest","itertools.pairwise"].contains n=false)(hQ:Q () s):wpAny M A (letOwnedTupleGo tg (.ref it) u) Q E s:=by
 unfold letOwnedTupleGo
 cases tg<;>first
  |exact wpAny_pure hQ
  |(cases u<;>first
     |exact wpAny_pure hQ
     |(refine wpAny_bind (wpAny_load ho ?_)
       rw[hc,hd];show wpAny M A (if (["enumerate","zip","dict_itemiterator","dict_reverseitemiterator","odict_iterator","itertools.zip_longest","itertools.pairwise"].contains n&&vs[0]?==some (rawInt _))=true then _ else _) Q E s;rw[if_neg (by intro h;rw[hn,Bool.false_and]at h;cases h)]
       exact wpAny_pure hQ))
def Itl(K:PySem.W.Frag)(a:Addr):It:=
 ⟨fun i H=>∃xs x,SqL K H a xs/\xs[i]?=some x,fun i H x H'=>H'=H/\∀xs,SqL K H a xs->xs[i]?=some x,fun i H=>∃xs,SqL K H a xs/\xs.length<=i⟩
def Itt(K:PySem.W.Frag)(a:Addr):It:=
 ⟨fun i H=>∃xs x,SqT K H a xs/\xs[i]?=some x,fun i H x H'=>H'=H/\∀xs,SqT K H a xs->xs[i]?=some x,fun i H=>∃xs,SqT K H a xs/\xs.length<=i⟩
def Itr(lo:Int)(n:Nat):It:=⟨fun i _=>i < n,fun i H x H'=>H'=H/\x= .int (lo+i),fun i _=>n<=i⟩
theorem oh{P:Program}{w:World}{K:PySem.W.Frag}{tg:Expr}(a it:Addr):Turn P w K tg (Itl K a) [it] it (fun i h=>h.IsListIter it a i) where
 mem:=by simp
 obj:=fun i h st b hb=>by
  have e:b=it:=by simpa using hb
  subst e;obtain⟨o,e,c,d⟩:=st;exact⟨o,e,fun v z=>by rw[d]at z;cases z⟩
 keep:=fun i h h' st k=>st.at fun o e=>k it (by simp) o e
 item:=by
  intro X j hw n hc i pins s σ H E I g st t;subst j hw n;obtain⟨xs,x,hq,hx⟩:=t;obtain⟨its,rv,p,hz⟩:=I.list hq;obtain⟨u,hu,ru⟩:=rv.get hx;obtain⟨q,y,f2,l,m,r⟩:=g it (by simp)
  refine wpAny_pyNext_list_item st p.isList (x:=u) (by simpa using hu) fun h' f sb=>?_
  have I1:Inv X pins σ H {s with heap:=h'}:=I.turned (t':=s.toks) (fun b o hb e=>(sb.2 b hb).trans e) q y l m r;obtain⟨o,e,c,d⟩:=id f;exact⟨u,rfl,nI (s:= {s with heap:=h'}) e c d (by decide) ⟨x,H,I1,ru,⟨rfl,fun ys hy=>by rw[I.list_inj hy hq];exact hx⟩,f,fun b hb=>(g b hb).1⟩⟩
 done:=by
  intro X j hw n hc i pins s σ H E I g st t;subst j hw n;obtain⟨xs,hq,hx⟩:=t;obtain⟨its,rv,p,hz⟩:=I.list hq;obtain⟨q,y,f2,l,m,r⟩:=g it (by simp)
  have hl:=rv.length;exact wpAny_pyNext_list_end (I.ok.hd hc) st p.isList (by simp;omega) fun h' eb=>⟨rfl,I.turned (t':=s.toks) (fun b o hb e=>eb b o hb e) q y l m r⟩
 self:=fun _ _ _ _ _ st h=>wpAny_pyIter_listiter st h
theorem kQ{P:Program}{w:World}{K:PySem.W.Frag}{tg:Expr}(a it:Addr):Turn P w K tg (Itt K a) [it] it (fun i h=>h.IsTupleIter it a i) where
 mem:=by simp
 obj:=fun i h st b hb=>by
  have e:b=it:=by simpa using hb
  subst e;obtain⟨o,e,c,d⟩:=st;exact⟨o,e,fun v z=>by rw[d]at z;cases z⟩
 keep:=fun i h h' st k=>st.at fun o e=>k it (by simp) o e
 item:=by
  intro X j hw n hc i pins s σ H E I g st t;subst j hw n;obtain⟨xs,x,hq,hx⟩:=t;obtain⟨its,rv,p,hz⟩:=I.tuple hq;obtain⟨u,hu,ru⟩:=rv.get hx;obtain⟨q,y,f2,l,m,r⟩:=g it (by simp)
  refine wpAny_pyNext_tuple_item st (show s.heap.IsTuple a its.toArray from p) (x:=u) (by simpa using hu) fun h' f sb=>?_
  have I1:Inv X pins σ H {s with heap:=h'}:=I.turned (t':=s.toks) (fun b o hb e=>(sb.2 b hb).trans e) q y l m r;obtain⟨o,e,c,d⟩:=id f;exact⟨u,rfl,nI (s:= {s with heap:=h'}) e c d (by decide) ⟨x,H,I1,ru,⟨rfl,fun ys hy=>by rw[I.tuple_inj hy hq];exact hx⟩,f,fun b hb=>(g b hb).1⟩⟩
 done:=by
  intro X j hw n hc i pins s σ H E I g st t;subst j hw n;obtain⟨xs,hq,hx⟩:=t;obtain⟨its,rv,p,hz⟩:=I.tuple hq;obtain⟨q,y,f2,l,m,r⟩:=g it (by simp)
  have hl:=rv.length;exact wpAny_pyNext_tuple_end (I.ok.hd hc) st (show s.heap.IsTuple a its.toArray from p) (by simp;omega) fun h' eb=>⟨rfl,I.turned (t':=s.toks) (fun b o hb e=>eb b o hb e) q y l m r⟩
 self:=fun _ _ _ _ _ st h=>wpAny_pyIter_tupleiter st h
theorem kR{P:Program}{w:World}{K:PySem.W.Frag}{tg:Expr}(it:Addr)(lo:Int)(n:Nat):Turn P w K tg (Itr lo n) [it] it (fun i h=>IsRangeIter h it (lo+(i:Nat)*1) ((n:Int) - (i:Nat)) 1) where
 mem:=by simp
 obj:=fun i h st b hb=>by
  have e:b=it:=by simpa using hb
  subst e
  exact⟨_,st,fun v z=>by
   have x:Data.fields _=Data.cell v:=z
   cases x⟩
 keep:=fun i h h' st k=>k it (by simp) _ st
 item:=by
  intro X d hw j hc i pins s σ H E I c st p;subst d hw j;obtain⟨l,q,r,f,g,m⟩:=c it (by simp)
  have W:=Walks.range (prog:=X.prog) (w:=X.w) (I.ok.hd hc) it lo 1 n;refine W.item i s _ _ p st fun v h' tk hv a kk=>?_;obtain⟨t,rfl⟩:=hv;have u:Inv X pins σ H {s with heap:=h',toks:=tk}:=I.turned (fun b o hb e=>kk b o (by simpa using hb) e) l q f g m
  refine⟨_,rfl,nI (s:= {s with heap:=h',toks:=tk}) (n:="range_iterator") a rfl rfl (by decide) ⟨.int (lo+i),H,u,⟨t,?_⟩,⟨rfl,rfl⟩,a,fun b hb=>(c b hb).1⟩⟩
  rw[Int.mul_one]
 done:=by
  intro X d hw j hc i pins s σ H E I c st p;subst d hw j;obtain⟨l,q,r,f,g,m⟩:=c it (by simp)
  exact wpAny_pyNext_range_end (I.ok.hd hc) st (by have:n<=i:=p;omega) fun h' y=>⟨rfl,I.turned (t':=s.toks) (fun b o hb e=>y b o hb e) l q f g m⟩
 self:=fun _ _ _ _ _ st h=>wpAny_pyIter_rangeiter st h
open PySem PySem.Spec PyProof.Rows
section
variable{X:Cx}{tg:Expr}
def nF(K:PySem.W.Frag)(tl:TE):TI:=fun σ H R=>tl σ H fun x H1=>∃a,x= .ref a/\(∃xs,SqL K H1 a xs)/\R (Itl K a) H1
def iTup(K:PySem.W.Frag)(tl:TE):TI:=fun σ H R=>tl σ H fun x H1=>∃a,x= .ref a/\(∃xs,SqT K H1 a xs)/\R (Itt K a) H1
theorem bf{l:Expr}{tl:TE}(hl:PE X l tl):PI X tg l (nF X.K tl):=by
 intro pins s σ H R I h;refine thn (hl pins s σ H _ I h) fun v s1 ⟨x,H1,c,r1,d⟩=>?_;obtain⟨a,e,⟨xs,hq⟩,q⟩:=d;subst e;cases r1;obtain⟨its,rv,p,hz⟩:=c.list hq;refine wpAny_pyIter_list p.isList ?_;refine⟨s1.heap.objs.size,[s1.heap.objs.size],_,_,H1,rfl,c.kept (t':=s1.toks) fun b o e=>Heap.get?_push_of_some _ e,oh a _,⟨_,Heap.get?_push_size _ rfl,rfl,rfl⟩,fun b hb=>?_,q⟩;have e:b=s1.heap.objs.size:=by simpa using hb
 subst e;exact c.fpOk (z4 _) (c.hok.fresh (z4 _))
theorem dz{l:Expr}{tl:TE}(hl:PE X l tl):PI X tg l (iTup X.K tl):=by
 intro pins s σ H R I h;refine thn (hl pins s σ H _ I h) fun v s1 ⟨x,H1,c,r1,d⟩=>?_;obtain⟨a,e,⟨xs,hq⟩,q⟩:=d;subst e;cases r1;obtain⟨its,rv,p,hz⟩:=c.tuple hq;refine wpAny_pyIter_tuple (show s1.heap.IsTuple a its.toArray from p) ?_;refine⟨s1.heap.objs.size,[s1.heap.objs.size],_,_,H1,rfl,c.kept (t':=s1.toks) fun b o e=>Heap.get?_push_of_some _ e,kQ a _,⟨_,Heap.get?_push_size _ rfl,rfl,rfl⟩,fun b hb=>?_,q⟩;have e:b=s1.heap.objs.size:=by simpa using hb
 subst e;exact c.fpOk (z4 _) (c.hok.fresh (z4 _))
theorem qZ{pins:List (Addr×Obj)}{σ:St}{H:Hp}{s:Shared}{R:It->Hp->Prop}{E:Value->Shared->Prop}{lo hi:Int}{t u v:Tok}{tk:Nat}(I:Inv X pins σ H s)(h1:-(2^62)<=lo)(h2:lo < 2^62)(h3:-(2^62)<=hi)(h4:hi < 2^62)(q:R (Itr lo (hi - lo).toNat) H):wpAny (model X.prog X.w) X.A (pyIter (.ref s.heap.objs.size)) (PIE X pins σ tg R) E {s with heap:=s.heap.push {cls:= .type "range",data:= .fields #[.int lo t, .int hi u, .int 1 v]},toks:=tk}:=by
 refine wpAny_pyIter_range (IsRange.new ..) (small_one h1 h2 h3 h4) ?_;have a:Inv X pins σ H {s with heap:=s.heap.push {cls:= .type "range",data:= .fields #[.int lo t, .int hi u, .int 1 v]},toks:=tk}:=I.kept fun b o e=>Heap.get?_push_of_some _ e
 refine⟨(s.heap.push {cls:= .type "range",data:= .fields #[.int lo t, .int hi u, .int 1 v]}).objs.size,[(s.heap.push {cls:= .type "range",data:= .fields #[.int lo t, .int hi u, .int 1 v]}).objs.size],_,_,H,rfl,
  a.kept (t':=tk) fun b o e=>Heap.get?_push_of_some _ e,kR _ lo (hi - lo).toNat,?_,fun b hb=>?_,q⟩
 . have e1:lo+((0:Nat):Int)*1=lo:=by simp
   have e2:(((hi - lo).toNat:Nat):Int) - ((0:Nat):Int)=Builtin.Range.rangeSize lo hi 1:=by rw[rangeSize_one];split<;>omega
   show IsRangeIter _ _ (lo+((0:Nat):Int)*1) ((((hi - lo).toNat:Nat):Int) - ((0:Nat):Int)) 1;rw[e1,e2];exact Heap.get?_push_size _ rfl
 . have e:b=(s.heap.push {cls:= .type "range",data:= .fields #[.int lo t, .int hi u, .int 1 v]}).objs.size:=by simpa using hb
   subst e;exact a.fpOk (z4 _) (a.hok.fresh (z4 _))
def yR(ta:TA):TI:=fun σ H R=>ta σ H fun vs H1=>∃j:Int,vs= [.int j]/\ -(2^62)<=j/\j < 2^62/\R (Itr 0 j.toNat) H1
theorem bZ{a:Expr}{ta:TA}{p pos:Pos}(hg:Gl X "range")(hm:X.mg "range"=none)(ha:PA X [a] ta)(hs:starEach [a] X.env= [(false,eval a X.env)]:=by rfl):PI X tg (.Call (.Name "range" p) [a] [] pos) (yR ta):=by
 intro pins s σ H R I h;refine Call_ (eh I hg hm boot_range (PyProof.Rows.callWith_type1 (thn (ha pos pins s σ H _ I h) fun us s1 ⟨vs,H1,d,r1,b⟩=>?_) hs rfl));obtain⟨j,e,b,f,q⟩:=b;subst e
 cases r1 with
 |cons r c=>
  cases c;obtain⟨t,rfl⟩:=r;exact call_range_1 (qZ d (by omega) (by omega) b f (by simpa using q))
def tFor(wi:TI)(g:TG)(tb:TS):TS:=fun D σ H=>wi σ H fun J H1=>∃W:Nat->Nat->St->Hp->Prop,(∃m,W 0 m σ H1)/\∀i m σ H,W i m σ H->
 (J.stop i H/\D.nx σ H)\/(J.go i H/\∃N:St->Hp->Prop,(∀σ' H',N σ' H'->∃m',m' < m/\W (i+1) m' σ' H')/\∀x H',J.yld i H x H'->g x σ H' fun σ2 H2=>tb {D with nx:=N,ct:=N,bk:=D.nx} σ2 H2)
noncomputable def dy(fp:List Addr)(h:Heap):List (Addr×Obj):=fp.filterMap fun b=>(h.get? b).map fun o=>(b,o)
theorem ba{fp:List Addr}{h:Heap}{b:Addr}{o:Obj}(hb:b∈fp)(e:h.get? b=some o):(b,o)∈dy fp h:=List.mem_filterMap.mpr ⟨b,hb,by rw[e];rfl⟩
theorem oE{fp:List Addr}{h:Heap}{p:Addr×Obj}(hp:p∈dy fp h):p.1∈fp/\h.get? p.1=some p.2:=by
 obtain⟨b,hb,e⟩:=List.mem_filterMap.mp hp
 cases q:h.get? b with
 |none=>rw[q]at e;cases e
 |some o=>
  rw[q]at e;have e':(b,o)=p:=ze e;subst e';exact⟨hb,q⟩
theorem Inv.pinned{pins:List (Addr×Obj)}{σ:St}{H:Hp}{s:Shared}{fp:List Addr}(I:Inv X pins σ H s)(hf:∀b∈fp,FpOk X pins H b)(ho:∀b∈fp,∃o,s.heap.get? b=some o/\∀v,o.data≠ .cell v):Inv X (pins++dy fp s.heap) σ H s:=
 I.pins_of fun p hp=>(zv.mp hp).elim (fun z=>I.pin p (zm _ z)) fun z=>by
  obtain⟨hb,e⟩:=oE z;obtain⟨c,f,a,_⟩:=hf p.1 hb;obtain⟨o,e',d⟩:=ho p.1 hb;rw[e]at e';cases e';exact⟨e,c,f,a,d⟩
theorem Inv.unpinned{pins pl:List (Addr×Obj)}{σ:St}{H:Hp}{s:Shared}(I:Inv X (pins++pl) σ H s):Inv X pins σ H s:=I.pins_of fun p hp=>I.pin p (zm _ (AE _ hp))
theorem bX{iter:Expr}{body:List Stmt}{wi:TI}{g:TG}{tb:TS}{pos:Pos}(hp:PassesOwn (model X.prog X.w) X.A X.env X.xe)(hc:X.calm=true)(hi:PI X tg iter wi)(hg:PG X tg g)(hb:PSs X body tb)(hs:∀x,foldedSetIterable iter X.env x=pure x:=by intro _;rfl):PS X (.For tg iter body [] pos) (tFor wi g tb):=by
 intro pins s σ H D I h;refine wpAny_For (thn (hi pins s σ H _ I h) fun v s1 h1=>thn h1 fun af s2 h2=>?_) hs;refine hZq fun q_ e_=>?_;obtain⟨it,fp,tn,J,H2,e,I2,T,y,f2,W,⟨m0,w0⟩,turn⟩:=h2;subst e_;subst e;have j:∀ {H':Hp},(∀b∈fp,H' b=none)->∀b∈fp,FpOk X pins H' b:=fun hn b hb=>⟨hn b hb,(f2 b hb).2⟩;refine codeAny_forLoop_any (fun n s'=>∃i σ' H',Inv X pins σ' H' s'/\tn i s'.heap/\(∀b∈fp,H' b=none)/\W i n σ' H') ?_ m0 ⟨0,σ,H2,I2,y,fun b hb=>(f2 b hb).1,w0⟩;intro n s3 z_;refine hZq fun q_ e_=>?_;obtain⟨i,q,H3,I3,t,p,w3⟩:=z_;subst e_;rcases turn i n q H3 w3 with⟨stop,qn⟩|⟨go,N,hN,step⟩
 . refine wpAny_passesOwn hp (thn (T.done X rfl rfl rfl hc i pins s3 q H3 X.xe I3 (j p) t stop) fun r s4 ⟨hr,I4⟩=>?_);subst hr;exact wpAny_execs_nil ⟨q,H3,I4,qn⟩
 . refine wpAny_passesOwn hp (thn (T.item X rfl rfl rfl hc i pins s3 q H3 X.xe I3 (j p) t go) fun r s4 ⟨u,hr,h4⟩=>?_);subst hr;refine wpAny_passesOwn hp (thn h4 fun _ s5 ⟨x,H5,I5,r5,y5,l,ac⟩=>?_);have z:=I5.pinned (j ac) (T.obj _ _ l);refine wpAny_passesOwn hp (thn (hg _ s5 q H5 x u _ z r5 (step x H5 y5)) fun _ s6 ⟨σ6,H6,I6,q6⟩=>?_);refine wpAny_passesOwn hp (thn (hb _ s6 σ6 H6 _ I6 q6) fun f s7 k=>?_)
   have again:∀ {c:St} {H7:Hp},Inv X (pins++dy fp s5.heap) c H7 s7->N c H7->∃m,m < n/\∃i σ' H',Inv X pins σ' H' s7/\tn i s7.heap/\(∀b∈fp,H' b=none)/\W i m σ' H':=fun{c H7} a n7=>by
    obtain⟨m',hm,w7⟩:=hN c H7 n7;refine⟨m',hm,i+1,c,H7,a.unpinned,T.keep _ _ _ l fun b hb o e=>(a.pin (b,o) (zm _ (zm _ (ba hb e)))).1,fun b hb=>?_,w7⟩;obtain⟨o,e,d⟩:=T.obj _ _ l b hb;exact(a.pin (b,o) (zm _ (zm _ (ba hb e)))).2.1
   cases f with
   |next=>obtain⟨c,H7,a,n7⟩:=k;exact again a n7
   |cont=>obtain⟨c,H7,a,n7⟩:=k;exact again a n7
   |brk=>obtain⟨c,H7,a,k⟩:=k;exact⟨c,H7,a.unpinned,k⟩
   |ret v=>obtain⟨x7,c,H7,a,r7,k⟩:=k;exact⟨x7,c,H7,a.unpinned,r7,k⟩
end
theorem eY{K:PySem.W.Frag}{a:Addr}{xs:List V}{g:TG}{tb:TS}{D:Ends}{σ:St}{H:Hp}(Pv:Nat->St->Hp->Prop)(h0:Pv 0 σ H)(hl:∀i σ H,i<=xs.length->Pv i σ H->SqL K H a xs)(hs:∀i x σ H,xs[i]?=some x->Pv i σ H->g x σ H fun σ2 H2=>tb {D with nx:=Pv (i+1),ct:=Pv (i+1),bk:=D.nx} σ2 H2)(hd:∀σ H,Pv xs.length σ H->D.nx σ H):
 ∃W:Nat->Nat->St->Hp->Prop,(∃m,W 0 m σ H)/\∀i m σ H,W i m σ H->
  ((Itl K a).stop i H/\D.nx σ H)\/((Itl K a).go i H/\∃N:St->Hp->Prop,(∀σ' H',N σ' H'->∃m',m' < m/\W (i+1) m' σ' H')/\∀x H',(Itl K a).yld i H x H'->g x σ H' fun σ2 H2=>tb {D with nx:=N,ct:=N,bk:=D.nx} σ2 H2):=by
 refine⟨fun i m σ H=>m=xs.length - i/\i<=xs.length/\Pv i σ H,⟨xs.length,by simp,zr _,h0⟩,?_⟩
 rintro i m σ H ⟨rfl,hi,p⟩;have q:=hl i σ H hi p;by_cases b:i < xs.length
 . refine .inr ⟨⟨xs,xs[i],q,by simp[b]⟩,Pv (i+1),fun σ' H' c=>⟨xs.length - (i+1),by omega,rfl,b,c⟩,fun x H' y=>?_⟩
   obtain⟨e,y⟩:=y;subst e;exact hs i x σ _ (y xs q) p
 . have e:i=xs.length:=by omega
   subst e;exact .inl ⟨⟨xs,q,z4 _⟩,hd σ H p⟩
theorem jy{K:PySem.W.Frag}{a:Addr}{xs:List V}{g:TG}{tb:TS}{D:Ends}{σ:St}{H:Hp}(Pv:Nat->St->Hp->Prop)(h0:Pv 0 σ H)(hl:∀i σ H,i<=xs.length->Pv i σ H->SqT K H a xs)(hs:∀i x σ H,xs[i]?=some x->Pv i σ H->g x σ H fun σ2 H2=>tb {D with nx:=Pv (i+1),ct:=Pv (i+1),bk:=D.nx} σ2 H2)(hd:∀σ H,Pv xs.length σ H->D.nx σ H):
 ∃W:Nat->Nat->St->Hp->Prop,(∃m,W 0 m σ H)/\∀i m σ H,W i m σ H->
  ((Itt K a).stop i H/\D.nx σ H)\/((Itt K a).go i H/\∃N:St->Hp->Prop,(∀σ' H',N σ' H'->∃m',m' < m/\W (i+1) m' σ' H')/\∀x H',(Itt K a).yld i H x H'->g x σ H' fun σ2 H2=>tb {D with nx:=N,ct:=N,bk:=D.nx} σ2 H2):=by
 refine⟨fun i m σ H=>m=xs.length - i/\i<=xs.length/\Pv i σ H,⟨xs.length,by simp,zr _,h0⟩,?_⟩
 rintro i m σ H ⟨rfl,hi,p⟩;have q:=hl i σ H hi p;by_cases b:i < xs.length
 . refine .inr ⟨⟨xs,xs[i],q,by simp[b]⟩,Pv (i+1),fun σ' H' c=>⟨xs.length - (i+1),by omega,rfl,b,c⟩,fun x H' y=>?_⟩
   obtain⟨e,y⟩:=y;subst e;exact hs i x σ _ (y xs q) p
 . have e:i=xs.length:=by omega
   subst e;exact .inl ⟨⟨xs,q,z4 _⟩,hd σ H p⟩
theorem cV{lo:Int}{n:Nat}{g:TG}{tb:TS}{D:Ends}{σ:St}{H:Hp}(Pv:Nat->St->Hp->Prop)(h0:Pv 0 σ H)(hs:∀i σ H,i < n->Pv i σ H->g (.int (lo+i)) σ H fun σ2 H2=>tb {D with nx:=Pv (i+1),ct:=Pv (i+1),bk:=D.nx} σ2 H2)(hd:∀σ H,Pv n σ H->D.nx σ H):
 ∃W:Nat->Nat->St->Hp->Prop,(∃m,W 0 m σ H)/\∀i m σ H,W i m σ H->
  ((Itr lo n).stop i H/\D.nx σ H)\/((Itr lo n).go i H/\∃N:St->Hp->Prop,(∀σ' H',N σ' H'->∃m',m' < m/\W (i+1) m' σ' H')/\∀x H',(Itr lo n).yld i H x H'->g x σ H' fun σ2 H2=>tb {D with nx:=N,ct:=N,bk:=D.nx} σ2 H2):=by
 refine⟨fun i m σ H=>m=n - i/\i<=n/\Pv i σ H,⟨n,by simp,zr _,h0⟩,?_⟩
 rintro i m σ H ⟨rfl,hi,p⟩;by_cases a:i < n
 . refine .inr ⟨a,Pv (i+1),fun σ' H' b=>⟨n - (i+1),by omega,rfl,a,b⟩,fun x H' y=>?_⟩
   obtain⟨e,y⟩:=y;subst e y;exact hs i σ _ a p
 . have e:i=n:=by omega
   subst e;exact .inl ⟨z4 _,hd σ H p⟩
theorem jK{c:TT}{tb:TS}{D:Ends}{σ:St}{H:Hp}(Pv:St->Hp->Prop)(μ:St->Hp->Nat)(h0:Pv σ H)(hs:∀σ H,Pv σ H->c σ H fun b H1=>if b=true then tb {D with nx:=fun σ' H'=>Pv σ' H'/\μ σ' H' < μ σ H,ct:=fun σ' H'=>Pv σ' H'/\μ σ' H' < μ σ H,bk:=D.nx} σ H1 else D.nx σ H1)(mono:∀σ H Q Q',(∀b H1,Q b H1->Q' b H1)->c σ H Q->c σ H Q'):pK c tb D σ H:=by
 refine⟨fun m σ H=>m=μ σ H/\Pv σ H,⟨_,rfl,h0⟩,?_⟩;rintro m σ H ⟨rfl,p⟩;refine mono σ H _ _ (fun b H1 q=>?_) (hs σ H p)
 cases b with
 |true=>exact⟨_,fun σ' H' ⟨a,l⟩=>⟨_,l,rfl,a⟩,q⟩
 |false=>exact q
open PySem PySem.Spec PyProof.Rows
abbrev R2:=V->V->Hp->VK->Prop
def OpR(X:Cx)(f:Value->Value->Sem Value)(r:R2):Prop:=
 ∀(pins:List (Addr×Obj)) (s:Shared) (σ:St) (H:Hp) (x y:V) (v u:Value) (Q:VK),Inv X pins σ H s->RelV x v->RelV y u->r x y H Q->
  wpAny (model X.prog X.w) X.A (f v u) (EP X pins σ Q) X.xe s
def UnR(X:Cx)(f:Value->Sem Value)(r:V->Hp->VK->Prop):Prop:=
 ∀(pins:List (Addr×Obj)) (s:Shared) (σ:St) (H:Hp) (x:V) (v:Value) (Q:VK),Inv X pins σ H s->RelV x v->r x H Q->
  wpAny (model X.prog X.w) X.A (f v) (EP X pins σ Q) X.xe s
def bV(X:Cx)(f:Value)(r:List V->Hp->VK->Prop):Prop:=
 ∀(pins:List (Addr×Obj)) (s:Shared) (σ:St) (H:Hp) (xs:List V) (us:List Value) (Q:VK),Inv X pins σ H s->Vals xs us->r xs H Q->
  wpAny (model X.prog X.w) X.A (call f us) (EP X pins σ Q) X.xe s
def TruR(X:Cx)(r:V->Hp->(Bool->Hp->Prop)->Prop):Prop:=
 ∀(pins:List (Addr×Obj)) (s:Shared) (σ:St) (H:Hp) (x:V) (v:Value) (Q:Bool->Hp->Prop),Inv X pins σ H s->RelV x v->r x H Q->
  wpAny (model X.prog X.w) X.A (truthy v) (TP X pins σ Q) X.xe s
def tOp(r:R2)(ta tb:TE):TE:=fun σ H Q=>ta σ H fun x H1=>tb σ H1 fun y H2=>r x y H2 Q
def tUn(r:V->Hp->VK->Prop)(ta:TE):TE:=fun σ H Q=>ta σ H fun x H1=>r x H1 Q
def rI(C:Int->Int->Prop)(g:Int->Int->V):R2:=fun x y H Q=>∃i j,x= .int i/\y= .int j/\C i j/\Q (g i j) H
def rI0(g:Int->Int->V):R2:=fun x y H Q=>∃i j,x= .int i/\y= .int j/\Q (g i j) H
def rU(g:Int->V):V->Hp->VK->Prop:=fun x H Q=>∃i,x= .int i/\Q (g i) H
section
variable{X:Cx}{a b c:Expr}{ta tb tc:TE}{pos:Pos}
theorem binT(ha:PE X a ta)(hb:PE X b tb){pins:List (Addr×Obj)}{s:Shared}{σ:St}{H:Hp}{R:V->V->Hp->Prop}(I:Inv X pins σ H s)(h:ta σ H fun x H1=>tb σ H1 fun y H2=>R x y H2){Q:Value->Shared->Prop}{f:Value->Value->Sem Value}(hf:∀v u s2 x y H2,Inv X pins σ H2 s2->RelV x v->RelV y u->R x y H2->wpAny (model X.prog X.w) X.A (f v u) Q X.xe s2):
 wpAny (model X.prog X.w) X.A (eval a X.env) (fun v s₁=>wpAny (model X.prog X.w) X.A (eval b X.env) (fun u s₂=>wpAny (model X.prog X.w) X.A (f v u) Q X.xe s₂) X.xe s₁) X.xe s:=by
 refine thn (ha pins s σ H _ I h) fun v s1 ⟨x,H1,d,r1,c⟩=>?_;refine thn (hb pins s1 σ H1 _ d c) fun u s2 ⟨y,H2,g,r2,e⟩=>?_;exact hf v u s2 x y H2 g r1 r2 e
theorem am{op:Operator}{r:R2}(ho:OpR X (binaryOp op) r)(ha:PE X a ta)(hb:PE X b tb):PE X (.BinOp a op b pos) (tOp r ta tb):=by
 intro pins s σ H Q I h;exact wpAny_BinOp (binT ha hb I h fun v u e x y H2 d c f q=>ho pins e σ H2 x y v u Q d c f q)
theorem cg{op:UnaryOp}{r:V->Hp->VK->Prop}(ho:UnR X (unaryOp op) r)(ha:PE X a ta):PE X (.UnaryOp op a pos) (tUn r ta):=by
 intro pins s σ H Q I h;exact UnaryOp_ (thn (ha pins s σ H _ I h) fun v s1 ⟨x,H1,c,r1,b⟩=>ho pins s1 σ H1 x v Q c r1 b)
theorem opI{f:Value->Value->Sem Value}{C:Int->Int->Prop}{g:Int->Int->Int}(rule:∀(i j:Int) (t u:Tok) (s:Shared) (Q:Value->Shared->Prop) (E:Value->Shared->Prop),C i j->Q (.int (g i j) s.toks) {s with toks:=s.toks+1}->wpAny (model X.prog X.w) X.A (f (.int i t) (.int j u)) Q E s):
 OpR X f (rI C fun i j=> .int (g i j)):=by
 intro pins s σ H x y v u Q I b a h;obtain⟨i,j,rfl,rfl,hc,q⟩:=h;obtain⟨t,rfl⟩:=b;obtain⟨t',rfl⟩:=a;exact rule i j t t' s _ _ hc ⟨.int (g i j),H,I.tok _,⟨_,rfl⟩,q⟩
theorem opI0{f:Value->Value->Sem Value}{g:Int->Int->Int}(rule:∀(i j:Int) (t u:Tok) (s:Shared) (Q:Value->Shared->Prop) (E:Value->Shared->Prop),Q (.int (g i j) s.toks) {s with toks:=s.toks+1}->wpAny (model X.prog X.w) X.A (f (.int i t) (.int j u)) Q E s):
 OpR X f (rI0 fun i j=> .int (g i j)):=by
 intro pins s σ H x y v u Q I b a h;obtain⟨i,j,rfl,rfl,q⟩:=h;obtain⟨t,rfl⟩:=b;obtain⟨t',rfl⟩:=a;exact rule i j t t' s _ _ ⟨.int (g i j),H,I.tok _,⟨_,rfl⟩,q⟩
theorem opB0{f:Value->Value->Sem Value}{g:Int->Int->Bool}(rule:∀(i j:Int) (t u:Tok) (s:Shared) (Q:Value->Shared->Prop) (E:Value->Shared->Prop),Q (.bool (g i j)) s->wpAny (model X.prog X.w) X.A (f (.int i t) (.int j u)) Q E s):
 OpR X f (rI0 fun i j=> .bl (g i j)):=by
 intro pins s σ H x y v u Q I b a h;obtain⟨i,j,rfl,rfl,q⟩:=h;obtain⟨t,rfl⟩:=b;obtain⟨t',rfl⟩:=a;exact rule i j t t' s _ _ ⟨.bl (g i j),H,I,rfl,q⟩
def CDiv(i j:Int):Prop:=0 < j/\j < 1073741824
def CPow(i j:Int):Prop:=0<=j/\j<=1000000/\i.natAbs < 2^64
def CMul(i j:Int):Prop:=(-(2^64) < i/\i < 2^64)\/(-(2^64) < j/\j < 2^64)
theorem CMul.ok{i j:Int}(h:CMul i j):IntMulOk i j:=by
 rcases h with⟨h1,h2⟩|⟨h1,h2⟩
 . exact .of_left (intBits_le_64 h1 h2)
 . exact .of_right (intBits_le_64 h1 h2)
theorem kP(k:Nat):(0:Int)<=2^k:=by
 rw[two_pow_cast];exact Int.natCast_nonneg _
theorem aS:OpR X (binaryOp .Add) (rI0 fun i j=> .int (i+j)):=opI0 fun _ _ _ _ _ _ _ q=>add_int q
theorem fA:OpR X (binaryOp .Sub) (rI0 fun i j=> .int (i - j)):=opI0 fun _ _ _ _ _ _ _ q=>sub_int q
theorem cN:OpR X (binaryOp .Mult) (rI CMul fun i j=> .int (i*j)):=opI fun _ _ _ _ _ _ _ hc q=>mul_int q hc.ok
theorem mS:OpR X (binaryOp .FloorDiv) (rI CDiv fun i j=> .int (i / j)):=opI fun i j _ _ _ _ _ hc q=>by
 have h1:(0:Int) < j:=hc.1;have h2:j < 1073741824:=hc.2;exact floordiv_int (by omega) (by rw[Ae i (by omega)];exact q) (.inl (PyProof.noPylong_small (by omega)))
theorem c6:OpR X (binaryOp .Mod) (rI (fun _ j=>0 < j) fun i j=> .int (i%j)):=opI fun i j _ _ _ _ _ hc q=>by
 have h1:(0:Int) < j:=hc;exact mod_int' (by omega) (by rw[Int.fmod_eq_emod_of_nonneg i (by omega)];exact q)
theorem uG:OpR X (binaryOp .Mod) (rI (fun _ j=>j≠0) fun i j=> .int (i.fmod j)):=opI fun _ _ _ _ _ _ _ hc q=>mod_int' hc q
theorem rO:OpR X (binaryOp .Pow) (rI CPow fun i j=> .int (i^j.toNat)):=opI fun _ _ _ _ _ _ _ hc q=>pow_int_small hc.1 hc.2.1 hc.2.2 q
theorem wy:OpR X (binaryOp .RShift) (rI (fun _ j=>0<=j) fun i j=> .int (i / 2^j.toNat)):=opI fun i j _ _ _ _ _ hc q=>
 rshift_int hc (by rw[Ae i (kP _)];exact q)
theorem unI{f:Value->Sem Value}{g:Int->Int}(rule:∀(i:Int) (t:Tok) (s:Shared) (Q:Value->Shared->Prop) (E:Value->Shared->Prop),Q (.int (g i) s.toks) {s with toks:=s.toks+1}->wpAny (model X.prog X.w) X.A (f (.int i t)) Q E s):
 UnR X f (rU fun i=> .int (g i)):=by
 intro pins s σ H x v Q I a h;obtain⟨i,rfl,q⟩:=h;obtain⟨t,rfl⟩:=a;exact rule i t s _ _ ⟨.int (g i),H,I.tok _,⟨_,rfl⟩,q⟩
theorem bu:UnR X (unaryOp .USub) (rU fun i=> .int (-i)):=unI fun _ _ _ _ _ q=>neg_int q
end
noncomputable def scal:V->V->Bool
 | .non, .non=>true| .non, .int _=>true| .int _, .non=>true| .non, .bl _=>true| .bl _, .non=>true| .non, .str _=>true| .str _, .non=>true
 | .int _, .int _=>true| .bl _, .bl _=>true| .str _, .str _=>true| .byt _, .byt _=>true
 | .int _, .str _=>true| .str _, .int _=>true| .bl _, .str _=>true| .str _, .bl _=>true
 |_,_=>false
def rEq:R2:=fun x y H Q=>scal x y=true/\Q (.bl (decide (x=y))) H
def rNe:R2:=fun x y H Q=>scal x y=true/\Q (.bl (!decide (x=y))) H
theorem nQ{i j:Int}:decide (V.int i=V.int j)=(i==j):=by
 rw[AN];simp
theorem tz{i j:Bool}:decide (V.bl i=V.bl j)=(i==j):=by
 rw[AN];simp
theorem nP{i j:Str}:decide (V.str i=V.str j)=(i==j):=by
 rw[AN];simp
theorem nR{i j:Array UInt8}:decide (V.byt i=V.byt j)=(i.toList==j.toList):=by
 rw[AN];cases i;cases j;simp
section
variable{X:Cx}{a b c:Expr}{ta tb tc:TE}{pos:Pos}
theorem aK{pins:List (Addr×Obj)}{σ:St}{H:Hp}{s:Shared}{Q:VK}{k k':Bool}(I:Inv X pins σ H s)(q:Q (.bl k) H)(e:k=k'):EP X pins σ Q (.bool k') s:=by
 subst e;exact⟨.bl k,H,I,rfl,q⟩
theorem ci:OpR X (compareOp .Eq) rEq:=by
 intro pins s σ H x y v u Q I b a h;obtain⟨hs,q⟩:=h
 cases x with
 |non=>
  cases b
  cases y with
  |non=>cases a;exact PySem.EqNone.eq_none_none (aK I q (by simp))
  |bl j=>cases a;exact PySem.EqNone.eq_none_bool (aK I q (by simp))
  |int j=>obtain⟨t',rfl⟩:=a;exact PySem.EqNone.eq_none_int (aK I q (by simp))
  |str j=>obtain⟨t',rfl⟩:=a;exact PySem.EqNone.eq_none_str (aK I q (by simp))
  |_=>exact absurd (show false=true from hs) zo
 |bl i=>
  cases b
  cases y with
  |non=>cases a;exact PySem.EqNone.eq_bool_none (aK I q (by simp))
  |bl j=>cases a;exact eq_bool (aK I q tz)
  |str j=>obtain⟨t',rfl⟩:=a;exact PySem.EqMixed.eq_bool_str (aK I q (by simp))
  |_=>exact absurd (show false=true from hs) zo
 |int i=>
  obtain⟨t,rfl⟩:=b
  cases y with
  |non=>cases a;exact PySem.EqNone.eq_int_none (aK I q (by simp))
  |int j=>obtain⟨t',rfl⟩:=a;exact eq_int (aK I q nQ)
  |str j=>obtain⟨t',rfl⟩:=a;exact PySem.EqMixed.eq_int_str (aK I q (by simp))
  |_=>exact absurd (show false=true from hs) zo
 |str i=>
  obtain⟨t,rfl⟩:=b
  cases y with
  |non=>cases a;exact PySem.EqNone.eq_str_none (aK I q (by simp))
  |bl j=>cases a;exact PySem.EqMixed.eq_str_bool (aK I q (by simp))
  |int j=>obtain⟨t',rfl⟩:=a;exact PySem.EqMixed.eq_str_int (aK I q (by simp))
  |str j=>obtain⟨t',rfl⟩:=a;exact eq_str (aK I q nP)
  |_=>exact absurd (show false=true from hs) zo
 |byt i=>
  obtain⟨t,rfl⟩:=b
  cases y with
  |byt j=>obtain⟨t',rfl⟩:=a;exact PySem.W.eq_bytes (aK I q nR)
  |_=>exact absurd (show false=true from hs) zo
 |_=>cases y<;>exact absurd (show false=true from hs) zo
theorem iF:OpR X (compareOp .NotEq) rNe:=by
 intro pins s σ H x y v u Q I b a h;obtain⟨hs,q⟩:=h
 cases x with
 |non=>
  cases b
  cases y with
  |non=>cases a;exact PySem.EqNone.ne_none_none (aK I q (by simp))
  |bl j=>cases a;exact PySem.EqNone.ne_none_bool (aK I q (by simp))
  |int j=>obtain⟨t',rfl⟩:=a;exact PySem.EqNone.ne_none_int (aK I q (by simp))
  |str j=>obtain⟨t',rfl⟩:=a;exact PySem.EqNone.ne_none_str (aK I q (by simp))
  |_=>exact absurd (show false=true from hs) zo
 |bl i=>
  cases b
  cases y with
  |non=>cases a;exact PySem.EqNone.ne_bool_none (aK I q (by simp))
  |bl j=>cases a;exact ne_bool (aK I q (congrArg not tz))
  |str j=>obtain⟨t',rfl⟩:=a;exact PySem.EqMixed.ne_bool_str (aK I q (by simp))
  |_=>exact absurd (show false=true from hs) zo
 |int i=>
  obtain⟨t,rfl⟩:=b
  cases y with
  |non=>cases a;exact PySem.EqNone.ne_int_none (aK I q (by simp))
  |int j=>obtain⟨t',rfl⟩:=a;exact ne_int (aK I q (congrArg not nQ))
  |str j=>obtain⟨t',rfl⟩:=a;exact PySem.EqMixed.ne_int_str (aK I q (by simp))
  |_=>exact absurd (show false=true from hs) zo
 |str i=>
  obtain⟨t,rfl⟩:=b
  cases y with
  |non=>cases a;exact PySem.EqNone.ne_str_none (aK I q (by simp))
  |bl j=>cases a;exact PySem.EqMixed.ne_str_bool (aK I q (by simp))
  |int j=>obtain⟨t',rfl⟩:=a;exact PySem.EqMixed.ne_str_int (aK I q (by simp))
  |str j=>obtain⟨t',rfl⟩:=a;exact ne_str (aK I q (congrArg not nP))
  |_=>exact absurd (show false=true from hs) zo
 |byt i=>
  obtain⟨t,rfl⟩:=b
  cases y with
  |byt j=>obtain⟨t',rfl⟩:=a;exact PySem.W.ne_bytes (aK I q (congrArg not nR))
  |_=>exact absurd (show false=true from hs) zo
 |_=>cases y<;>exact absurd (show false=true from hs) zo
theorem iG:OpR X (compareOp .Lt) (rI0 fun i j=> .bl (decide (i < j))):=opB0 fun _ _ _ _ _ _ _ q=>lt_int q
theorem cr:OpR X (compareOp .Gt) (rI0 fun i j=> .bl (decide (j < i))):=opB0 fun _ _ _ _ _ _ _ q=>gt_int q
theorem yH:OpR X (compareOp .GtE) (rI0 fun i j=> .bl (decide (j<=i))):=opB0 fun _ _ _ _ _ _ _ q=>ge_int q
theorem rR:OpR X (compareOp .Is) (fun x y H Q=>y= .non/\Q (.bl (decide (x= .non))) H):=by
 intro pins s σ H x y v u Q I a b h;obtain⟨rfl,q⟩:=h;cases b;refine is_none_gen (aK I q ?_)
 cases x<;>first
  |(cases a;rfl)
  |(obtain⟨t,rfl⟩:=a;rfl)
theorem ay(b:Expr){op:CmpOp}(h:op≠ .In:=by decide)(h2:op≠ .NotIn:=by decide):behindInMarks op b=false:=by
 have e1:(op==CmpOp.In)=false:=by cases op<;>first|rfl|exact absurd rfl h
 have e2:(op==CmpOp.NotIn)=false:=by cases op<;>first|rfl|exact absurd rfl h2
 cases b<;>simp[behindInMarks,e1,e2]
theorem cf{op:CmpOp}{r:R2}(ho:OpR X (compareOp op) r)(ha:PE X a ta)(hb:PE X b tb)(hm:behindInMarks op b=false):PE X (.Compare a [op] [b] pos) (tOp r ta tb):=by
 intro pins s σ H Q I h;exact wpAny_Compare1 (binT ha hb I h fun v u e x y H2 d c f q=>ho pins e σ H2 x y v u Q d c f q) hm
def pM(t:TE):TT:=fun σ H Q=>t σ H fun x H'=>∃k,x= .bl k/\Q k H'
theorem ax{op:CmpOp}{r:R2}(ho:OpR X (compareOp op) r)(ha:PE X a ta)(hb:PE X b tb)(hm:behindInMarks op b=false):PT X (.Compare a [op] [b] pos) (pM (tOp r ta tb)):=by
 intro pins s σ H Q I h
 refine wpAny_isTrue_Compare1 (thn (ha pins s σ H _ I h) fun v s1 ⟨x,H1,j,r1,d⟩=>thn (hb pins s1 σ H1 _ j d) fun u g ⟨y,H2,n,r2,m⟩=>
  thn (ho pins g σ H2 x y v u _ n r1 r2 m) fun c o ⟨z,H3,f,i,k,e,l⟩=>?_) hm
 subst e;cases i;exact wpAny_truthy_bool ⟨H3,f,l⟩
def w6(r r':R2)(ta tb tc:TE):TE:=fun σ H Q=>ta σ H fun x H1=>tb σ H1 fun y H2=>r x y H2 fun z H3=>∃k,z= .bl k/\
 (if k=true then tc σ H3 fun w' H4=>r' y w' H4 Q else Q (.bl false) H3)
theorem rA{op op':CmpOp}{r r':R2}(ho:OpR X (compareOp op) r)(ho':OpR X (compareOp op') r')(ha:PE X a ta)(hb:PE X b tb)(hc:PE X c tc)(hm:lastMarks [op,op'] [b,c]=false:=by with_unfolding_all rfl):PT X (.Compare a [op,op'] [b,c] pos) (pM (w6 r r' ta tb tc)):=by
 intro pins s σ H Q I h
 refine isTrue_chain (thn (ha pins s σ H _ I h) fun v s1 ⟨x,H1,o,r1,i⟩=>test_link (thn (hb pins s1 σ H1 _ o i) fun u l ⟨y,H2,I2,r2,q2⟩=>
  thn (ho pins l σ H2 x y v u _ I2 r1 r2 q2) fun d s3 ⟨z,H3,f,n,k,e,g⟩=>?_)) hm
 subst e;cases n;refine wpAny_truthy_bool ?_
 cases k with
 |false=>
  obtain⟨k',e',q'⟩:=g;cases e';exact ite_ff ⟨H3,f,q'⟩
 |true=>
  refine ite_tt (test_last (thn (hc pins s3 σ H3 _ f g) fun w' w ⟨p,H4,I4,q,m⟩=>thn (ho' pins w σ H4 y p u w' _ I4 r2 q m) fun d' s5 ⟨z2,H5,t,j,k2,e2,q5⟩=>?_));subst e2;cases j;exact wpAny_truthy_bool ⟨H5,t,q5⟩
def TruV(K:PySem.W.Frag)(x:V)(H:Hp)(k:Bool):Prop:=
 match x with
 | .non=>k=false
 | .bl b=>k=b
 | .int i=>k=(i !=0)
 | .str y=>y.length<=sizeLine/\k=((y.length:Int) !=0)
 | .byt y=>y.size<=sizeLine/\k=((y.size:Int) !=0)
 | .ref p=>(∃xs,SqL K H p xs/\k= !xs.isEmpty)\/(∃xs,SqT K H p xs/\k= !xs.isEmpty)\/∃kvs,H p=some (.dK kvs)/\k= !kvs.isEmpty
 |_=>False
theorem lN{κ:Type}{kvs:List (κ×V)}{vs:List (κ×Value)}(r:KV kvs vs):(!vs.isEmpty)= !kvs.isEmpty:=by
 cases r<;>rfl
theorem i4{xs:List V}{its:List Value}(r:Vals xs its):(!its.toArray.isEmpty)= !xs.isEmpty:=by
 cases r<;>simp
theorem fG:(sizeLine:Nat) < 2^63:=by rw[sizeLine_eq];decide
theorem vT:TruR X (fun x H Q=>∃k,TruV X.K x H k/\Q k H):=by
 intro pins s σ H x v Q I c h;obtain⟨k,e,q⟩:=h;have hl:=fG;have hs:sizeLine=16777216:=sizeLine_eq
 cases x with
 |non=>
  cases c;have e':k=false:=e;subst e';exact truthy_none ⟨H,I,q⟩
 |bl b=>
  cases c;have e':k=b:=e;subst e';exact wpAny_truthy_bool ⟨H,I,q⟩
 |int i=>
  obtain⟨t,rfl⟩:=c;have e':k=(i !=0):=e;subst e';exact PySem.P.truthy_int ⟨H,I,q⟩
 |str y=>
  obtain⟨t,rfl⟩:=c;obtain⟨hy,e'⟩:y.length<=sizeLine/\k=((y.length:Int) !=0):=e;subst e';exact PySem.P.truthy_str (by omega) ⟨H,I.tok _,q⟩
 |byt y=>
  obtain⟨t,rfl⟩:=c;obtain⟨hy,e'⟩:y.size<=sizeLine/\k=((y.size:Int) !=0):=e;subst e';exact PySem.W.truthy_bytes (by omega) ⟨H,I.tok _,q⟩
 |ref p=>
  cases c;have e':(∃xs,SqL X.K H p xs/\k= !xs.isEmpty)\/(∃xs,SqT X.K H p xs/\k= !xs.isEmpty)\/∃kvs,H p=some (.dK kvs)/\k= !kvs.isEmpty:=e;rcases e' with⟨xs,hx,e'⟩|⟨xs,hx,e'⟩|⟨kvs,hx,e'⟩
  . subst e';obtain⟨its,r,pl,hz⟩:=I.list hx;have a:=r.length;exact wpAny_truthy_list pl.isList (by simp only[z9];omega) ⟨H,I.tok _,by rw[i4 r];exact q⟩
  . subst e';obtain⟨its,r,pl,hz⟩:=I.tuple hx;have a:=r.length;exact truthy_tuple pl (by simp only[z9];omega) ⟨H,I.tok _,by rw[i4 r];exact q⟩
  . subst e';obtain⟨hz,d,vs,r,m⟩:kvs.length<=sizeLine/\(p==sysModules)=false/\∃vs,KV kvs vs/\s.heap.DictOf (aL X.prog X.w) p vs:=I.hok p _ hx;have a:kvs.length=vs.length:=Paired.length r;exact wpAny_truthy_dict d m (by omega) ⟨H,I.tok _,by rw[lN r];exact q⟩
 |_=>exact(show False from e).elim
theorem rq(ha:PE X a ta)(he:∀whole,isTrue a X.env whole=(do let v<-whole;standAt a.pos;holding [v] (truthy v))):
 PT X a (fun σ H Q=>ta σ H fun x H'=>∃k,TruV X.K x H' k/\Q k H'):=by
 intro pins s σ H Q I h;exact isTrue_plain (thn (ha pins s σ H _ I h) fun v s1 ⟨x,H1,c,r1,b⟩=>vT pins s1 σ H1 x v Q c r1 b) (he _)
theorem gY:OpR X (binaryOp .Add) (fun x y H Q=>∃i j,x= .str i/\y= .str j/\i.length+j.length<=sizeLine/\Q (.str (i++j)) H):=by
 intro pins s σ H x y v u Q I b a h;obtain⟨i,j,rfl,rfl,hz,q⟩:=h;obtain⟨t,rfl⟩:=b;obtain⟨t',rfl⟩:=a;exact add_str (fun t' tk=>⟨.str (i++j),H,I.tok _,⟨_,rfl⟩,q⟩) hz
theorem cG{x:V}{us:List Value}(r:Vals [x] us):∃u,us= [u]/\RelV x u:=by
 cases r with
 |cons r1 r2=>cases r2;exact⟨_,rfl,r1⟩
theorem ij:bV X (.builtin "abs") (fun xs H Q=>∃i,xs= [.int i]/\Q (.int (if i < 0 then -i else i)) H):=by
 intro pins s σ H xs us Q I r h;obtain⟨i,rfl,q⟩:=h;obtain⟨u,rfl,t,rfl⟩:=cG r;exact call_abs_int fun u tk=>⟨.int (if i < 0 then -i else i),H,I.tok _,⟨_,rfl⟩,q⟩
end
open PySem PySem.Spec PyProof.Rows
structure ObjM (h:Heap) (x dx C:Addr) (mA:Str->Option Value):Prop where
 obj:h.get? x=some (PySem.W.instObj C dx)
 ns:h.Ns1 dx mA
 ne:dx≠x
theorem oJ{h:Heap}{dx:Addr}{mA:Str->Option Value}(n:h.Ns1 dx mA):∃od,h.get? dx=some od/\∀name,PySem.W.lookIn name od=some (mA name):=by
 obtain⟨o,es,ep,ho,hd,hk,_,hm⟩:=n;refine⟨o,ho,fun name=>?_⟩;have e:=hm name;unfold nsFind findBy at e;rw[<-Array.find?_toList]at e;unfold PySem.W.lookIn;rw[hd];dsimp only;split
 . rename_i y q;rw[q]at e;exact congrArg some e
 . rename_i q;rw[q]at e
   have a:es.toList.any (·.refKey)=false:=by
    rw[List.any_eq_false];intro y hy;obtain⟨z,t,b⟩:=hk y (Array.mem_toList_iff.mp hy);simp[DictEntry.refKey,b]
   have c:¬es.toList.any (·.refKey)=true:=by rw[a];exact zo
   rw[if_neg c];exact congrArg some e
theorem ObjM.look{h:Heap}{x dx C:Addr}{mA:Str->Option Value}(I:ObjM h x dx C mA):∃od,PySem.W.InstAt h x (PySem.W.instObj C dx) C (some od)/\∀name,PySem.W.lookIn name od=some (mA name):=
 let ⟨od,ho,hl⟩:=oJ I.ns
 ⟨od,⟨I.obj,rfl,rfl,ho⟩,hl⟩
section
variable{prog:Program}{w:World}{A:Around}{E:Value->Shared->Prop}{s:Shared}{K:PySem.W.Frag}{x dx C f:Addr}{mA:Str->Option Value}{name:Str}{v:Value}
theorem uZ{expr:Bool}{Q:Value->Shared->Prop}(X:K.In s.heap)(I:ObjM s.heap x dx C mA)(hg:PySem.W.plainGet K C name=true)(hh:PySem.W.hasDictIn K C=true)(ha:PySem.W.findIn K (.ref C) name=some none)(hv:mA name=some v)(hv':PySem.W.handedIn v=true)(h:Q v {s with toks:=s.toks+1}):
 wpAny (model prog w) A (getAttr (.ref x) name expr) Q E s:=by
 obtain⟨a,J,hl⟩:=I.look;exact PySem.W.get_value X J (PySem.W.plainGet_of hg).1 (PySem.W.findObj_own hh ha rfl (by rw[hl,hv])) hv' h
theorem um{ns:List Str}{Q:Unit->Shared->Prop}(X:K.In s.heap)(I:ObjM s.heap x dx C mA)(hs:PySem.W.findIn K (.ref C) "__setattr__"=some (some (.builtin "object.__setattr__")))(hp:PySem.W.plainOver K C=true)(ht:PySem.W.takerIn K C name=some none)(hh:PySem.W.hasDictIn K C=true)(hw:PySem.Within mA ns)(hsz:ns.length<=sizeLine)(h:∀h',ObjM h' x dx C (fun y=>if y=name then some v else mA y)->Heap.SameBut dx s.heap h'->Q () {s with heap:=h',toks:=s.toks+2}):
 wpAny (model prog w) A (setAttr (.ref x) name v) Q E s:=by
 obtain⟨l,J,hl⟩:=I.look;refine PySem.W.set_plain X J hs (PySem.W.osa_open (s:= {s with toks:=s.toks+1}) (r:=none) X J hp ht fun b=>?_);obtain⟨m,hc,f⟩:=PySem.W.any_some hh;have hx:s.heap.get? x=some ⟨.ref C,some dx, .plain, #[]⟩:=I.obj;refine wpAny_bind (wpAny_pure (wpAny_bind (wpAny_bind (wpAny_loadPart hx (wpAny_bind (PySem.W.Looks.here (s:= {s with toks:=s.toks+1}) (PySem.W.looks_clsIn X hc) ?_))))));rw[f];refine wpAny_pure (a:=some dx) (wpAny_bind (wpAny_pure (wpAny_bind ?_)));refine wpAny_nsSet1 (s:= {s with toks:=s.toks+1}) I.ns fun h' c d=>?_;obtain⟨n,k,j,e,g,i⟩:=c.count (PySem.Within.cons name v hw);refine wpAny_bind (wpAny_lookBehind e (by rw[g];exact pastItsLine_dict (zh i (by rw[zq];omega))) ?_)
 exact wpAny_pure (h _ ⟨(d.2 _ (Ne.symm I.ne)).trans I.obj,c,I.ne⟩ d)
theorem sm{R:Result->Shared->Prop}{vs:List Value}{kw:List (Str×Value)}(X:K.In s.heap)(hm:PySem.W.makesIn K C=true)(hi:PySem.W.findIn K (.ref C) "__init__"=some (some (.ref f)))(hf:PySem.W.typeIn K (.ref f)=some (.type "function"))(h:codeAny (model prog w) (A.under (.builtin "type.__call__" ⟨.ref C::vs,kw⟩)) (.call (.ref f) ⟨.ref (s.heap.objs.size+1)::vs,kw⟩) (PySem.W.InitBack (s.heap.objs.size+1) R)
  {s with heap:=(s.heap.push PySem.W.emptyDict).push (PySem.W.instObj C s.heap.objs.size)}):
 codeAny (model prog w) A (.call (.ref C) ⟨vs,kw⟩) R s:=by
 obtain⟨hh,g,d,t,os⟩:=s;exact PySem.W.make_core (PySem.W.makes_of X hm) (PySem.W.looks_findIn X hi) (fun self=>PySem.W.bind_fn X self hf) (.inl rfl) h
end
noncomputable def putF(f:Str)(v:V):List (Str×V)->List (Str×V)
 | []=> [(f,v)]
 |(g,x)::r=>if g=f then(g,v)::r else(g,x)::putF f v r
theorem fP(f g:Str)(v:V):∀fs:List (Str×V),(putF f v fs).lookup g=if g=f then some v else fs.lookup g
 | []=>by
  show List.lookup g [(f,v)]=_;by_cases h:g=f
  . have hb:(g==f)=true:=beq_iff_eq.mpr h;simp only[List.lookup,hb,if_pos h]
  . have hb:(g==f)=false:=beq_eq_false_iff_ne.mpr h;simp only[List.lookup,hb,if_neg h]
 |(k,x)::r=>by
  have a:=fP f g v r;rw[show putF f v ((k,x)::r)=(if k=f then(k,v)::r else(k,x)::putF f v r)from rfl];by_cases hk:k=f
  . rw[if_pos hk];by_cases h:g=k
    . have hb:(g==k)=true:=beq_iff_eq.mpr h;simp only[List.lookup,hb,if_pos (h.trans hk)]
    . have hb:(g==k)=false:=beq_eq_false_iff_ne.mpr h;simp only[List.lookup,hb,if_neg (fun e:g=f=>h (e.trans hk.symm))]
  . rw[if_neg hk];by_cases h:g=k
    . have hb:(g==k)=true:=beq_iff_eq.mpr h;simp only[List.lookup,hb,if_neg (fun e:g=f=>hk (h.symm.trans e))]
    . have hb:(g==k)=false:=beq_eq_false_iff_ne.mpr h;simp only[List.lookup,hb];exact a
theorem fJ(f:Str)(v:V):∀fs:List (Str×V),f∈(putF f v fs).map (·.1)/\∀g,g∈fs.map (·.1)->g∈(putF f v fs).map (·.1)
 | []=>⟨by simp[putF],fun g h=>by simp at h⟩
 |(k,x)::r=>by
  obtain⟨i1,i2⟩:=fJ f v r;rw[show putF f v ((k,x)::r)=(if k=f then(k,v)::r else(k,x)::putF f v r)from rfl];by_cases hk:k=f
  . rw[if_pos hk];subst hk;exact⟨by simp,fun g h=>by simpa using h⟩
  . rw[if_neg hk];refine⟨?_,fun g h=>?_⟩
    . rw[zj];exact z5 _ i1
    . rw[zj]at h ⊢;rcases zc.mp h with e|e
      . exact zc.mpr (.inl e)
      . exact z5 _ (i2 g e)
theorem fU(f:Str)(v:V):∀fs:List (Str×V),(putF f v fs).length<=fs.length+1
 | []=>by simp[putF]
 |(k,x)::r=>by
  have a:=fU f v r;rw[show putF f v ((k,x)::r)=(if k=f then(k,v)::r else(k,x)::putF f v r)from rfl];by_cases hk:k=f
  . rw[if_pos hk,zq,zq];omega
  . rw[if_neg hk,zq,zq];omega
theorem RelO.some_of{v:V}{o:Option Value}(r:RelO (some v) o):∃u,o=some u/\RelV v u:=by
 cases o with
 |none=>exact(show False from r).elim
 |some u=>exact⟨u,rfl,r⟩
theorem oR{v:V}{u:Value}(r:RelV v u):PySem.W.handedIn u=true:=by
 cases v with
 |non=>cases (show u=Value.none from r);rfl
 |bl b=>cases (show u=Value.bool b from r);rfl
 |int i=>obtain⟨t,e⟩:=(show∃t,u=Value.int i t from r);cases e;rfl
 |str x=>obtain⟨t,e⟩:=(show∃t,u=Value.str x t from r);cases e;rfl
 |byt b=>obtain⟨t,e⟩:=(show∃t,u=Value.bytes b t from r);cases e;rfl
 |flt b=>obtain⟨t,e⟩:=(show∃t,u=Value.float b t from r);cases e;rfl
 |ref a=>cases (show u=Value.ref a from r);rfl
 |ty n=>cases (show u=Value.type n from r);rfl
section
variable{P:Program}{w:World}{H H':Hp}{h h':Heap}{a C dx:Addr}{fs fs':List (Str×V)}
theorem jw(hok:HOk P w H h)(e:H a=some (.ins C dx fs)):∃mA,ObjM h a dx C mA/\(∀f,RelO (fs.lookup f) (mA f))/\PySem.Within mA (fs.map (·.1))/\fs.length<=1000/\H dx=some (.own a):=by
 obtain⟨d,z,ne,ob,mA,n,r,q⟩:=(show ObjOk P w H h a (.ins C dx fs)from hok a _ e);exact⟨mA,⟨ob,n,ne⟩,r,q,z,d⟩
end
structure Cls (K:PySem.W.Frag) (C:Addr):Prop where
 pg:PySem.W.plainGet K C Str.empty=true
 hd:PySem.W.hasDictIn K C=true
 po:PySem.W.plainOver K C=true
 sa:PySem.W.findIn K (.ref C) "__setattr__"=some (some (.builtin "object.__setattr__"))
theorem Cls.get{K:PySem.W.Frag}{C:Addr}(c:Cls K C)(f:Str):PySem.W.plainGet K C f=true:=c.pg
def NoAttr(K:PySem.W.Frag)(C:Addr)(f:Str):Prop:=PySem.W.findIn K (.ref C) f=some none
theorem NoAttr.taker{K:PySem.W.Frag}{C:Addr}{f:Str}(n:NoAttr K C f):PySem.W.takerIn K C f=some none:=by
 unfold PySem.W.takerIn;rw[show PySem.W.findIn K (.ref C) f=some none from n];rfl
section
variable{X:Cx}{pins:List (Addr×Obj)}{σ:St}{H:Hp}{s:Shared}{a C dx:Addr}{fs:List (Str×V)}{f:Str}{v:V}{A:Around}{E:Value->Shared->Prop}
theorem lP{b:Bool}{Q:Value->Shared->Prop}(I:Inv X pins σ H s)(e:H a=some (.ins C dx fs))(c:Cls X.K C)(n:NoAttr X.K C f)(l:fs.lookup f=some v)(h:∀u s',Inv X pins σ H s'->RelV v u->Q u s'):wpAny (model X.prog X.w) A (getAttr (.ref a) f b) Q E s:=by
 obtain⟨mA,O,r,_,_,_⟩:=jw I.hok e;obtain⟨u,hu,d⟩:=RelO.some_of (v:=v) (o:=mA f) (by rw[<-l];exact r f)
 exact uZ I.kIn O (c.get f) c.hd n hu (oR d) (h u _ (I.tok _) d)
theorem l8{y:V}{u:Value}{Q:Unit->Shared->Prop}(I:Inv X pins σ H s)(e:H a=some (.ins C dx fs))(c:Cls X.K C)(n:NoAttr X.K C f)(hl:fs.length < 1000)(ry:RelV y u)(h:∀s',Inv X pins σ (upd H a (.ins C dx (putF f y fs))) s'->Q () s'):wpAny (model X.prog X.w) A (setAttr (.ref a) f u) Q E s:=by
 obtain⟨mA,O,r,wi,_,ho⟩:=jw I.hok e;have hz:(fs.map (·.1)).length<=sizeLine:=by rw[yY,sizeLine_eq];omega
 refine um I.kIn O c.sa c.po n.taker c.hd wi hz fun h' d sb=>h _ ?_;have hd:∃o,h'.get? dx=some o:=let ⟨o,_,_,e',_⟩:=d.ns;⟨o,e'⟩;refine I.write (x:=a) (e:=dx) (by rw[e];exact True.intro) (.inr ho) (fun b q hb z=>(sb.2 b hb).trans z) hd ?_
 refine⟨by rw[ag O.ne];exact ho,?_,O.ne,d.obj,_,d.ns,fun g=>?_,fun g i=>?_⟩
 . have:=fU f y fs;omega
 . show RelO ((putF f y fs).lookup g) (if g=f then some u else mA g);rw[fP];by_cases q:g=f
   . rw[if_pos q,if_pos q];exact ry
   . rw[if_neg q,if_neg q];exact r g
 . by_cases q:g=f
   . rw[q];exact(fJ f y fs).1
   . refine(fJ f y fs).2 g (wi g fun z=>i ?_);show(if g=f then some u else mA g)=none;rw[if_neg q];exact z
theorem Inv.made(I:Inv X pins σ H s):Inv X pins σ (upd (upd H s.heap.objs.size (.own (s.heap.objs.size+1))) (s.heap.objs.size+1) (.ins C s.heap.objs.size []))
 {s with heap:=(s.heap.push PySem.W.emptyDict).push (PySem.W.instObj C s.heap.objs.size)}:=by
 have e1:(s.heap.push PySem.W.emptyDict).get? s.heap.objs.size=some PySem.W.emptyDict:=Heap.get?_push_size s.heap rfl
 have e2:((s.heap.push PySem.W.emptyDict).push (PySem.W.instObj C s.heap.objs.size)).get? (s.heap.objs.size+1)=some (PySem.W.instObj C s.heap.objs.size):=by
  have:=Heap.get?_push_size (s.heap.push PySem.W.emptyDict) (o:=PySem.W.instObj C s.heap.objs.size) rfl
  rwa [Heap.size_push]at this
 have c:(s.heap.push PySem.W.emptyDict).Ns s.heap.objs.size (fun _=>none):=⟨PySem.W.emptyDict, #[],_,e1,rfl,(fun e he=>absurd he (by simp)),fun _=>rfl⟩
 have d:=I.laid (a:=s.heap.objs.size) (o:= .own (s.heap.objs.size+1)) (h':=s.heap.push PySem.W.emptyDict) (t':=s.toks) (fun b u q=>Heap.get?_push_of_some _ q) (z4 _) ⟨_,e1⟩;refine d.laid (a:=s.heap.objs.size+1) (o:= .ins C s.heap.objs.size []) (t':=s.toks) (fun b u q=>Heap.get?_push_of_some _ q) (Nat.le_of_eq (Heap.size_push _ _)) ?_;have ne:s.heap.objs.size≠s.heap.objs.size+1:=zp (Ay _);refine⟨by rw[ag ne,a8],zr _,ne,e2,fun _=>none,(Heap.Ns1.of_empty c).at fun o q=>Heap.get?_push_of_some _ q,fun _=>True.intro,fun y hy=>absurd rfl hy⟩
theorem vi{prog:Program}{w:World}{env:Env}{e:Expr}{f:Str}{pos:Pos}{s:Shared}{Q:Value->Shared->Prop}(hb:attributeBase e f env (eval e env)=eval e env)(h:wpAny (model prog w) A (eval e env) (fun o s₁=>wpAny (model prog w) A (getAttr o f true) Q E s₁) E s):wpAny (model prog w) A (eval (.Attribute e f pos) env) Q E s:=
 Attribute_any_ h (by rw[arm_eval_Attribute,hb])
end
def tFld(K:PySem.W.Frag)(ta:TE)(f:Str):TE:=fun σ H Q=>ta σ H fun x H1=>∃a C dx fs v,x= .ref a/\H1 a=some (.ins C dx fs)/\Cls K C/\NoAttr K C f/\fs.lookup f=some v/\Q v H1
def sFld(K:PySem.W.Frag)(ta tv:TE)(f:Str):TS:=fun D σ H=>tv σ H fun y H1=>ta σ H1 fun x H2=>∃a C dx fs,x= .ref a/\H2 a=some (.ins C dx fs)/\Cls K C/\NoAttr K C f/\fs.length < 1000/\
 D.nx σ (upd H2 a (.ins C dx (putF f y fs)))
section
variable{X:Cx}{o e value:Expr}{f:Str}{pos pos' tpos:Pos}{ta tv:TE}
theorem aN(he:PE X e ta)(hb:attributeBase e f X.env (eval e X.env)=eval e X.env):PE X (.Attribute e f pos) (tFld X.K ta f):=by
 intro pins s σ H Q I h;refine vi hb (thn (he pins s σ H _ I h) fun u s1 ⟨x,H1,b,i,a,C,dx,fs,v,ex,g,c,n,l,q⟩=>?_);subst ex;obtain rfl:u=Value.ref a:=i;exact lP b g c n l fun m k j d=>⟨v,H1,j,d,q⟩
theorem dw(ha:PE X o ta)(hv:PE X value tv)(hs:swapsWith value (some (.Attribute o f pos')) pos.line X.env=pure false):PS X (.Assign [.Attribute o f pos'] value pos) (sFld X.K ta tv f):=by
 intro pins s σ H D I h;refine plainObj_wpAny_Assign_Attribute (thn (hv pins s σ H _ I h) fun u s1 ⟨y,H1,d,e,q⟩=>thn (ha pins s1 σ H1 _ d q) fun ov m ⟨x,H2,k,i,a,C,dx,fs,ex,g,c,n,l,j⟩=>?_) hs;subst ex;obtain rfl:ov=Value.ref a:=i;exact l8 k g c n l e fun p b=>⟨σ,_,b,j⟩
end
section
variable{X:Cx}{pins:List (Addr×Obj)}{σ:St}{H:Hp}{s:Shared}{A:Around}{E:Value->Shared->Prop}{Q:Value->Shared->Prop}{c:Value}{b:Bool}
inductive TyOf (K:PySem.W.Frag) (H:Hp):V->Value->Prop where
 |non:TyOf K H .non (.type "NoneType")
 |bl (x:Bool):TyOf K H (.bl x) (.type "bool")
 |int (i:Int):TyOf K H (.int i) (.type "int")
 |str (x:Str):TyOf K H (.str x) (.type "str")
 |flt (x:UInt64):TyOf K H (.flt x) (.type "float")
 |lst {a:Addr} {xs:List V} (e:H a=some (.lst xs)):TyOf K H (.ref a) (.type "list")
 |frz {a:Addr} {o:Obj} {xs:List V} (e:H a=some (.frz o (.lst xs))):TyOf K H (.ref a) (.type "list")
 |tup {a:Addr} {xs:List V} (e:H a=some (.tup xs)):TyOf K H (.ref a) (.type "tuple")
 |dK {a:Addr} {kvs:List (Key×V)} (e:H a=some (.dK kvs)):TyOf K H (.ref a) (.type "dict")
 |dT {a:Addr} {kvs:List (List Key×V)} (e:H a=some (.dT kvs)):TyOf K H (.ref a) (.type "dict")
 |ins {a C dx:Addr} {fs:List (Str×V)} (e:H a=some (.ins C dx fs)) (cl:Cls K C) (ha:PySem.W.findIn K (.ref C) "__class__"=some (some (.builtin "object.__class__")))
  (hn:PySem.W.specialIn K (.builtin "object.__class__") "__get__"=some (some (.builtin "getset_descriptor.__get__"))) (htk:PySem.W.takesIn K (.builtin "object.__class__")=some true)
  (hm:PySem.W.mroIn K C (.type "object")=some true):TyOf K H (.ref a) (.ref C)
end
open PySem PySem.Spec PyProof.Rows
structure Room (k:Nat) (A:Around):Prop where
 hd:A.handled=none
 dp:A.depth+3*k+5 < recursionLimit
 un:A.units+16*k+200 < cLine
 gd:A.guards=some []
theorem Room.mono{j k:Nat}{A:Around}(r:Room k A)(h:j<=k):Room j A:=⟨r.hd,by have:=r.dp;omega,by have:=r.un;omega,r.gd⟩
theorem Room.deeper{k:Nat}{A:Around}(r:Room (k+1) A)(env:Env):Room k (A.deeper env):=
 ⟨r.hd,by have:=r.dp;show A.depth+1+3*k+5 < _;omega,by have:=r.un;show A.units+3+16*k+200 < _;omega,by first|exact r.gd|(have:=r.gd;simpa [Around.deeper,Around.under]using this)⟩
theorem lK{A:Around}{C:Addr}{us:List Value}{kw:List (Str×Value)}:(A.under (.builtin "type.__call__" ⟨.ref C::us,kw⟩)).depth=A.depth+1:=by
 first|rfl|simp[Around.under,Code.weight,Code.isCreation,Code.isGuard,Code.isCaller,Code.frames,Code.isFrame,guardIds]
theorem lJ{A:Around}{C:Addr}{us:List Value}{kw:List (Str×Value)}:(A.under (.builtin "type.__call__" ⟨.ref C::us,kw⟩)).units=A.units+1:=by
 first|rfl|simp[Around.under,Code.cUnits,Code.frames,Code.isFrame]
theorem Room.make{k:Nat}{A:Around}(r:Room (k+1) A)(C:Addr)(us:List Value)(kw:List (Str×Value)):Room k (A.under (.builtin "type.__call__" ⟨.ref C::us,kw⟩)):=
 ⟨r.hd,by have:=r.dp;rw[lK];omega,by have:=r.un;rw[lJ];omega,by have:=r.gd;simp[Around.under,Code.guards,Code.isGuard,guardIds,pushGuards,this]⟩
theorem Room.depth{k:Nat}{A:Around}(r:Room k A):A.depth < recursionLimit:=by have:=r.dp;omega
theorem Room.units{k:Nat}{A:Around}(r:Room k A):A.units+64 < cLine:=by have:=r.un;omega
def tNil:TA:=fun _ H Q=>Q [] H
def eI(ta:TE)(tr:TA):TA:=fun σ H Q=>ta σ H fun x H1=>tr σ H1 fun xs H2=>Q (x::xs) H2
section
variable{X:Cx}{e:Expr}{es:List Expr}{te:TE}{t:TA}{pos:Pos}
theorem aa:PA X [] tNil:=fun _ _ _ _ H Q I h=>Calls.spliced_nil ⟨[],H,I, .nil,h⟩
theorem a0(ha:PE X e te)(hr:PA X es t)(hs:starEach (e::es) X.env=(false,eval e X.env)::starEach es X.env:=by rfl):PA X (e::es) (eI te t):=by
 intro pos pins s σ H Q I h;rw[hs];show wpAny _ _ (spliced ((false,eval e X.env)::backTo pos (starEach es X.env))) _ _ s;refine Calls.spliced_cons (thn (ha pins s σ H _ I h) fun u s1 ⟨x,H1,b,r1,a⟩=>?_);exact thn (hr pos pins s1 σ H1 _ b a) fun us f ⟨xs,H2,d,r2,c⟩=>⟨x::xs,H2,d, .cons r1 r2,c⟩
def tTup(t:TA):TE:=fun σ H Q=>t σ H fun xs H1=>xs.length<=sizeLine/\∀p,H1 p=none->Q (.ref p) (upd H1 p (.tup xs))
def tLst(t:TA):TE:=fun σ H Q=>t σ H fun xs H1=>xs.length<=sizeLine/\∀p,H1 p=none->Q (.ref p) (upd H1 p (.lst xs))
theorem aY{x1}(h:PA X es t):PE X (.Tuple es x1 pos) (tTup t):=by
 intro pins s σ H Q I hq;refine wpAny_Tuple_spliced (thn (h pos pins s σ H _ I hq) fun us s1 ⟨xs,H1,a,r,z,q⟩=>⟨by rw[<-r.length];exact z,?_⟩)
 have c:H1 s1.heap.objs.size=none:=a.hok.fresh (z4 _);refine⟨.ref s1.heap.objs.size,upd H1 s1.heap.objs.size (.tup xs),a.laid (t':=s1.toks) (fun b u e=>Heap.get?_push_of_some _ e) (z4 _) ?_,rfl,q _ c⟩;exact⟨z,us,r,⟨_,Heap.get?_push_size _ rfl,rfl,_,rfl⟩⟩
theorem c5(h:PA X es t):PE X (.List es pos) (tLst t):=by
 intro pins s σ H Q I hq;refine wpAny_List_spliced (thn (h pos pins s σ H _ I hq) fun us s1 ⟨xs,H1,a,r,z,q⟩=>⟨by rw[<-r.length];exact z,?_⟩)
 have c:H1 s1.heap.objs.size=none:=a.hok.fresh (z4 _);refine⟨.ref s1.heap.objs.size,upd H1 s1.heap.objs.size (.lst xs),a.laid (t':=s1.toks) (fun b u e=>Heap.get?_push_of_some _ e) (z4 _) ?_,rfl,q _ c⟩;exact⟨z,us,0,r,Heap.get?_push_size _ rfl⟩
end
abbrev Sp:=List V->Hp->VK->XK->Prop
abbrev CXT:=List Env->Hp->Shared->XK->Value->Shared->Prop
structure Env0 (P:Program) (w:World) (K:PySem.W.Frag) (mg:Str->Option Value) (base:Heap) (A:Around) (outer:List Env) (s:Shared) (H:Hp):Prop where
 frames:A.frames=some outer
 mod:Mod K mg base
 bs:∀b o,base.get? b=some o->s.heap.get? b=some o/\Idl (H b)
 bsz:base.objs.size<=s.heap.objs.size
 funs:s.heap.FunFrames base outer
 frf:∀b∈frs outer,H b=none
 hok:HOk P w H s.heap
 bare:AllBare s.gens
def CE(outer:List Env)(P:Program)(w:World)(H:Hp)(s:Shared)(Q:VK)(u:Value)(s':Shared):Prop:=
 ∃v H',s'.os=s.os/\AllBare s'.gens/\Un (frs outer) [] H H' s.heap s'.heap/\HOk P w H' s'.heap/\RelV v u/\Q v H'
def CR(CX:CXT)(outer:List Env)(P:Program)(w:World)(H:Hp)(s:Shared)(Q:VK)(E:XK)(r:Result)(s':Shared):Prop:=
 match r with
 | .ok (.ret u)=>CE outer P w H s Q u s'
 | .ok _=>False
 | .error e=>CX outer H s E e s'
structure FnOk (P:Program) (w:World) (K:PySem.W.Frag) (mg:Str->Option Value) (base:Heap) (CX:CXT) (k:Nat) (f:Addr) (fd:FuncData) (ps:List Str) (sp:Sp):Prop where
 len:∀vs H Q E,sp vs H Q E->vs.length=ps.length
 run:∀(A:Around) (outer:List Env) (s:Shared) (H:Hp) (args:Args) (us:List Value) (vs:List V) (Q:VK) (E:XK),Room k A->Env0 P w K mg base A outer s H->BindsTo s fd args (ps.zip us)->Vals vs us->sp vs H Q E->
  codeAny (model P w) A (.call (.ref f) args) (CR CX outer P w H s Q E) s
theorem Env0.make{P:Program}{w:World}{K:PySem.W.Frag}{mg:Str->Option Value}{base:Heap}{A:Around}{outer:List Env}{s:Shared}{H:Hp}(e:Env0 P w K mg base A outer s H)(C:Addr)(us:List Value)(kw:List (Str×Value)):
 Env0 P w K mg base (A.under (.builtin "type.__call__" ⟨.ref C::us,kw⟩)) outer s H:=⟨by first|exact e.frames|(simpa [Around.under,Code.envs,Code.isFrame,pushEnvs]using e.frames),e.mod,e.bs,e.bsz,e.funs,e.frf,e.hok,e.bare⟩
section
variable{X:Cx}{pins:List (Addr×Obj)}{σ:St}{H:Hp}{s s':Shared}
theorem Inv.env0(I:Inv X pins σ H s):Env0 X.prog X.w X.K X.mg X.base X.A X.stack s H:=
 ⟨I.ok.frames,I.ok.mod,I.bs,zh I.ok.bsz I.sz,I.stack,I.stkFree,I.hok,I.bare⟩
theorem Inv.after{Q:VK}{u:Value}(I:Inv X pins σ H s)(h:CE X.stack X.prog X.w H s Q u s'):EP X pins σ Q u s':=by
 obtain⟨v,H',os,bare,un,hok,r,q⟩:=h;obtain⟨hh,g,d,t,a⟩:=s';obtain rfl:a=s.os:=os;exact⟨v,H',I.call (h':=hh) (g':=g) (d':=d) (t':=t) (ch:= []) un hok bare (fun b z=>absurd z (by simp)),r,q⟩
end
def pQ(sp:Sp)(dvs:List V)(E:XK)(t:TA):TE:=fun σ H Q=>t σ H fun vs H1=>sp (vs++dvs) H1 Q E
def yf(C:Addr)(sp:Sp)(dvs:List V)(E:XK)(t:TA):TE:=fun σ H Q=>t σ H fun vs H1=>∀x dx,H1 x=none->H1 dx=none->dx≠x->
 sp (.ref x::(vs++dvs)) (upd (upd H1 dx (.own x)) x (.ins C dx [])) (fun v H2=>v= .non/\Q (.ref x) H2) E
def Binds(K:PySem.W.Frag)(fd:FuncData)(ps:List Str)(ds:List Value):Prop:=
 ∀(s:Shared) (us:List Value),K.In s.heap->(us++ds).length=ps.length->BindsTo s fd ⟨us,[]⟩ (ps.zip (us++ds))
theorem Binds.all{K:PySem.W.Frag}{fd:FuncData}{ps:List Str}(h:∀us:List Value,us.length=ps.length->bindArgs fd ⟨us,[]⟩=pure (ps.zip us)):Binds K fd ps []:=fun s us _ hl=>by
 rw[List.append_nil]at hl ⊢;exact .of_eq (h us hl)
def io(CX:CXT)(X:Cx)(E:XK):Prop:=∀(pins:List (Addr×Obj)) (σ:St) (H:Hp) (s:Shared) (e:Value) (s':Shared),Inv X pins σ H s->CX X.stack H s E e s'->X.xe e s'
section
variable{X:Cx}{CX:CXT}{k:Nat}{f C:Addr}{fd:FuncData}{ps:List Str}{sp:Sp}{dvs:List V}{ds:List Value}{E:XK}{x m:Str}{p pos apos:Pos}{e o:Expr}{es:List Expr}{ta:TE}{t:TA}
theorem wj{pins:List (Addr×Obj)}{σ:St}{H:Hp}{s:Shared}{Q:VK}{us:List Value}{vs:List V}(F:FnOk X.prog X.w X.K X.mg X.base CX k f fd ps sp)(hr:Room k X.A)(hb:Binds X.K fd ps ds)(hd:Vals dvs ds)(hx:io CX X E)(I:Inv X pins σ H s)(r:Vals vs us)(h:sp (vs++dvs) H Q E):wpAny (model X.prog X.w) X.A (call (.ref f) us) (EP X pins σ Q) X.xe s:=by
 have r2:Vals (vs++dvs) (us++ds):=r.append hd;have hl:(us++ds).length=ps.length:=by rw[<-r2.length];exact F.len _ _ _ _ h
 refine wpAny_call (codeAny_mono (F.run X.A X.stack s H ⟨us,[]⟩ (us++ds) (vs++dvs) Q E hr I.env0 (hb s us I.kIn hl) r2 h) fun r s' hq=>?_)
 cases r with
 |error e=>exact hx pins σ H s e s' I hq
 |ok fl=>
  cases fl with
  |ret u=>exact I.after hq
  |next=>exact False.elim hq
  |brk=>exact False.elim hq
  |cont=>exact False.elim hq
theorem dR(F:FnOk X.prog X.w X.K X.mg X.base CX k f fd ps sp)(hr:Room k X.A)(hg:Gl X x)(hm:X.mg x=some (.ref f))(hk:PySem.W.keepIn X.K (.ref f)=true)(hb:Binds X.K fd ps ds)(hd:Vals dvs ds)(hx:io CX X E)(ha:PA X (e::es) t)(hdb:(x==("__debug__":Str))=false:=by decide)(he:starEach (e::es) X.env=(false,eval e X.env)::starEach es X.env:=by rfl)(hpl:(backTo pos (starEach es X.env)).any (·.1)=false:=by rfl):
 PE X (.Call (.Name x p) (e::es) [] pos) (pQ sp dvs E t):=by
 intro pins s σ H Q I h;refine wpAny_Call_Name_kw (ni I hg hm ?_ hdb);refine PySem.W.callWith_K (h₀:=X.base) I.ok.mod.kin hk (thn (ha pos pins s σ H _ I h) fun us s1 ⟨vs,H1,a,r,q⟩=>⟨a.kIn,?_⟩) he hpl;exact wj F hr hb hd hx a r q
structure Mk (K:PySem.W.Frag) (C f:Addr):Prop where
 makes:PySem.W.makesIn K C=true
 init:PySem.W.findIn K (.ref C) "__init__"=some (some (.ref f))
 fn:PySem.W.isFn K (.ref f)=true
 kp:PySem.W.keepIn K (.ref C)=true
theorem qU{pins:List (Addr×Obj)}{σ:St}{H:Hp}{s:Shared}{Q:VK}{us:List Value}{vs:List V}(M:Mk X.K C f)(F:FnOk X.prog X.w X.K X.mg X.base CX k f fd ps sp)(hr:Room (k+1) X.A)(hb:Binds X.K fd ps ds)(hd:Vals dvs ds)(hx:io CX X E)(I:Inv X pins σ H s)(r:Vals vs us)(h:∀x dx,H x=none->H dx=none->dx≠x->sp (.ref x::(vs++dvs)) (upd (upd H dx (.own x)) x (.ins C dx [])) (fun v H2=>v= .non/\Q (.ref x) H2) E):
 wpAny (model X.prog X.w) X.A (call (.ref C) us) (EP X pins σ Q) X.xe s:=by
 have hq:=h (s.heap.objs.size+1) s.heap.objs.size (I.hok.fresh (Nat.le_succ _)) (I.hok.fresh (z4 _)) (zp (Ay _));have b:=Inv.made (C:=C) I;have r2:Vals (V.ref (s.heap.objs.size+1)::(vs++dvs)) (Value.ref (s.heap.objs.size+1)::(us++ds)):= .cons rfl (r.append hd)
 have hl:(Value.ref (s.heap.objs.size+1)::us++ds).length=ps.length:=by
  have e:=r2.length;rw[F.len _ _ _ _ hq]at e;exact e.symm
 refine wpAny_call (sm (f:=f) I.kIn M.makes M.init (beq_iff_eq.mp M.fn) (codeAny_mono (F.run _ X.stack _ _ ⟨Value.ref (s.heap.objs.size+1)::us,[]⟩ (Value.ref (s.heap.objs.size+1)::(us++ds)) _ _ E (hr.make C us [])
  (b.env0.make C us []) (hb _ (Value.ref (s.heap.objs.size+1)::us) b.kIn hl) r2 hq) fun r s' a=>?_))
 cases r with
 |error e=>exact hx pins σ _ _ e s' b a
 |ok fl=>
  cases fl with
  |ret u=>
   obtain⟨v,H',d,rv,c,g⟩:=b.after a;subst c;exact⟨rv,⟨V.ref (s.heap.objs.size+1),H',d,rfl,g⟩⟩
  |next=>exact False.elim a
  |brk=>exact False.elim a
  |cont=>exact False.elim a
theorem uB(M:Mk X.K C f)(F:FnOk X.prog X.w X.K X.mg X.base CX k f fd ps sp)(hr:Room (k+1) X.A)(hg:Gl X x)(hm:X.mg x=some (.ref C))(hb:Binds X.K fd ps ds)(hd:Vals dvs ds)(hx:io CX X E)(ha:PA X (e::es) t)(hdb:(x==("__debug__":Str))=false:=by decide)(he:starEach (e::es) X.env=(false,eval e X.env)::starEach es X.env:=by rfl)(hpl:(backTo pos (starEach es X.env)).any (·.1)=false:=by rfl):
 PE X (.Call (.Name x p) (e::es) [] pos) (yf C sp dvs E t):=by
 intro pins s σ H Q I h;refine wpAny_Call_Name_kw (ni I hg hm ?_ hdb);refine PySem.W.callWith_K (h₀:=X.base) I.ok.mod.kin M.kp (thn (ha pos pins s σ H _ I h) fun us s1 ⟨vs,H1,a,r,q⟩=>⟨a.kIn,?_⟩) he hpl;exact qU M F hr hb hd hx a r q
end
section
variable{X:Cx}{CX:CXT}{k:Nat}{f C:Addr}{fd:FuncData}{ps ks:List Str}{sp:Sp}{E:XK}{x m:Str}{p pos apos kpos:Pos}{e o:Expr}{es:List Expr}{kws:List Keyword}{te ta:TE}{t tk:TA}{nm:Option Str}
variable{g:List Value->List Value->List Value}{gV:List V->List V->List V}
end
structure FnScope (N P:List Str) (sc:Scope):Prop where
 kind:sc.kind= .function
 co:sc.isCoroutine=false
 gen:sc.isGenerator=false
 nd:N.Nodup
 pre:N.take P.length=P
 par:∀x∈P,sc.names.lookup x=some .local\/sc.names.lookup x=some .cell
 nofree:∀y∈sc.names,y.2≠ .free
theorem iS{kindOf:Str->Option NameKind}{x:Str}:∀ {binds:List (Str×Value)} {m:Str->Option Value},(∀v,(x,v)∉binds)->bindL kindOf binds m x=m x
 | [],_,_=>rfl
 |(n,v)::r,m,h=>by
  unfold bindL;rw[iS fun w hw=>h w (z5 _ hw)];split
  . have:x≠n:=by rintro rfl;exact h v z6
    simp[this]
  . rfl
theorem iU{kindOf:Str->Option NameKind}{x:Str}:∀ {binds:List (Str×Value)} {m:Str->Option Value},(∀v,(x,v)∉binds)->bindC kindOf binds m x=m x
 | [],_,_=>rfl
 |(n,v)::r,m,h=>by
  unfold bindC;rw[iU fun w hw=>h w (z5 _ hw)];split
  . rfl
  . have:x≠n:=by rintro rfl;exact h v z6
    simp[this]
theorem iT{kindOf:Str->Option NameKind}{x:Str}{v:Value}:∀ {P:List Str} {vs:List Value} {i:Nat} {m:Str->Option Value},P.Nodup->P[i]?=some x->vs[i]?=some v->kindOf x=some .local->
 bindL kindOf (P.zip vs) m x=some v
 | [],_,_,_,_,h,_,_=>by simp at h
 |_::_,[],_,_,_,_,h,_=>by simp at h
 |p::P,w::vs,0,m,nd,h1,h2,hk=>by
  simp at h1 h2;subst h1;subst h2;show bindL kindOf ((p,w)::P.zip vs) m p=_;unfold bindL;rw[iS fun v hv=>(AC.mp nd).1 (List.of_mem_zip hv).1,if_pos hk];simp
 |p::P,w::vs,i+1,m,nd,h1,h2,hk=>by
  show bindL kindOf ((p,w)::P.zip vs) m x=_;unfold bindL;exact iT (i:=i) (AC.mp nd).2 (by simpa using h1) (by simpa using h2) hk
theorem iV{kindOf:Str->Option NameKind}{x:Str}{v:Value}:∀ {P:List Str} {vs:List Value} {i:Nat} {m:Str->Option Value},P.Nodup->P[i]?=some x->vs[i]?=some v->kindOf x≠some .local->
 bindC kindOf (P.zip vs) m x=some v
 | [],_,_,_,_,h,_,_=>by simp at h
 |_::_,[],_,_,_,_,h,_=>by simp at h
 |p::P,w::vs,0,m,nd,h1,h2,hk=>by
  simp at h1 h2;subst h1;subst h2;show bindC kindOf ((p,w)::P.zip vs) m p=_;unfold bindC;rw[iU fun v hv=>(AC.mp nd).1 (List.of_mem_zip hv).1,if_neg hk];simp
 |p::P,w::vs,i+1,m,nd,h1,h2,hk=>by
  show bindC kindOf ((p,w)::P.zip vs) m x=_;unfold bindC;exact iV (i:=i) (AC.mp nd).2 (by simpa using h1) (by simpa using h2) hk
noncomputable def eM(N:List Str)(vs:List V):St:=vs.map some++List.replicate (N.length - vs.length) none
noncomputable def cxOf(CX:CXT)(P:Program)(w:World)(K:PySem.W.Frag)(mg:Str->Option Value)(base:Heap)(N:List Str)(qual:Str)(scope:Scope)(f:Addr)(cd:Value)(A:Around)(outer:List Env)(s:Shared)(H:Hp)(E:XK):Cx where
 prog:=P
 w:=w
 K:=K
 mg:=mg
 base:=base
 A:=A.deeper (envOfC qual scope s.heap.objs.size f cd)
 N:=N
 s₀:=s
 H₀:=H
 env:=envOfC qual scope s.heap.objs.size f cd
 outer:=outer
 stack:=envOfC qual scope s.heap.objs.size f cd::outer
 ex:= []
 calm:=true
 fn:=fun _=>true
 pn:= []
 xe:=fun e s'=>wpAny (model P w) (A.deeper (envOfC qual scope s.heap.objs.size f cd)) (leaving (envOfC qual scope s.heap.objs.size f cd) e) (fun _ s''=>CX outer H s E e s'') (fun e' s''=>CX outer H s E e' s'') s'
theorem kK{sc:Scope}{n:Nat}{x:Str}(h:sc.names.lookup x=some .cell):∃c,(cellsFrom n sc.names []).lookup x=some c:=by
 have q:=PySem.W.cellsFrom_some sc.names n [] (.inl h);exact Option.isSome_iff_exists.mp q
theorem oP{CX:CXT}{P:Program}{w:World}{K:PySem.W.Frag}{mg:Str->Option Value}{base:Heap}{N ps:List Str}{qual:Str}{scope:Scope}{f:Addr}{cd:Value}{A:Around}{outer:List Env}{s s1:Shared}{H:Hp}{E:XK}{us:List Value}{vs:List V}(S:FnScope N ps scope)(hd:A.handled=none)(e0:Env0 P w K mg base A outer s H)(hl:vs.length=ps.length)(r:Vals vs us)(x:InCallC s s.heap.objs.size (bindL (envOfC qual scope s.heap.objs.size f cd).kindOf (ps.zip us) fun _=>none) (cellsFrom (s.heap.objs.size+1) scope.names []) (bindC (envOfC qual scope s.heap.objs.size f cd).kindOf (ps.zip us) fun _=>none) s1):
 Inv (cxOf CX P w K mg base N qual scope f cd A outer s H E) [] (eM N vs) H s1:=by
 have j:ps.length<=N.length:=by have:=congrArg List.length S.pre;rw[zG]at this;omega
 obtain⟨h1,tk,rfl,hk⟩:=x.done;have d:∀b:Addr,b∉(cxOf CX P w K mg base N qual scope f cd A outer s H E).ex:=fun b z=>absurd (show b∈([]:List Addr)from z) (by simp)
 refine⟨⟨e0.mod,S.kind,rfl,rfl,z4 _,fun y z c h1 h2=>?_,fun y hy=>?_,fun y c _ h=>?_,fun _=>hd,Around.frames_deeper e0.frames, .inr ⟨rfl,rfl⟩,fun b z=>absurd z (d b),e0.bs,e0.bsz,fun b _ _=>d b,fun b z=>absurd z (d b),e0.funs,e0.frf⟩,
  rfl,e0.bare,Un.kept hk,⟨_,x.toInCall.ns,fun i y v h1 h2 h3=>?_⟩,fun y c h=>⟨_,x.cell y c h⟩,e0.hok.fresh (z4 _),fun y c h=>?_,fun p hp=>absurd (show p∈([]:List (Addr×Obj))from hp) (by simp),e0.hok.kept hk,?_⟩
 . exact name_of_addr x.apart (PySem.mem_of_lookup h1) (PySem.mem_of_lookup h2)
 . have hy:scope.names.lookup y=some .cell\/scope.names.lookup y=some .free:=hy;rcases hy with hy|hy
   . exact kK hy
   . exact absurd rfl (S.nofree _ (PySem.mem_of_lookup hy))
 . exact Aj (x.above y c (PySem.mem_of_lookup h))
 . have hi:i < vs.length:=by
    unfold eM at h2;by_cases hi:i < vs.length
    . exact hi
    . rw[List.getElem?_append_right (by simpa using hi)]at h2
      rw[List.getElem?_replicate]at h2;split at h2<;>cases h2
   have ha:vs[i]?=some v:=by
    unfold eM at h2;rw[List.getElem?_append_left (by simpa using hi),z7]at h2
    cases e:vs[i]? with
    |none=>rw[e]at h2;cases h2
    |some a=>rw[e]at h2;cases h2;rfl
   obtain⟨u,hu,rv⟩:=r.get ha
   have hp:ps[i]?=some y:=by
    rw[<-S.pre,List.getElem?_take_of_lt (by omega)];exact h1
   have g:ps.Nodup:=by rw[<-S.pre];exact S.nd.sublist (List.take_sublist _ _)
   refine⟨u,rv,?_⟩;rcases S.par y (za hp)with k|k
   . exact .inl ⟨k,iT g hp hu k⟩
   . obtain⟨c,e⟩:=kK (n:=s.heap.objs.size+1) k;refine .inr ⟨.inl k,c,e,?_⟩;have q:=x.cell y c e;rw[iV g hp hu (by show scope.names.lookup y≠_;rw[k];decide)]at q
     exact q
 . exact e0.hok.fresh (Aj (x.above y c (PySem.mem_of_lookup h)))
 . unfold eM;show _=N.length;rw[zK,yY,List.length_replicate];omega
theorem vM{CX:CXT}{P:Program}{w:World}{K:PySem.W.Frag}{mg:Str->Option Value}{base:Heap}{k:Nat}{f:Addr}{name qual:Str}{params:Arguments}{body:List Stmt}{scope:Scope}{dV kV doc pm cdv ct oc:Value}{an od:Option Addr}{osl:Array (Option Value)}{N ps:List Str}{sp:Sp}(lk:K.lookup f=some ⟨oc,od, .func (PySem.W.fnOf name qual params body scope dV kV doc pm an cdv ct),osl⟩)(hcd:PySem.W.codeIn K cdv qual=true)(S:FnScope N ps scope)(len:∀vs H Q E,sp vs H Q E->vs.length=ps.length)(hbody:∀(A:Around) (outer:List Env) (s:Shared) (H:Hp) (vs:List V) (Q:VK) (E:XK),Room k (A.deeper (envOfC qual scope s.heap.objs.size f cdv))->sp vs H Q E->
  ∃t,PSs (cxOf CX P w K mg base N qual scope f cdv A outer s H E) body t/\t {nx:=fun _ H'=>Q .non H',rt:=Q} (eM N vs) H):
 FnOk P w K mg base CX (k+1) f (PySem.W.fnOf name qual params body scope dV kV doc pm an cdv ct) ps sp:=by
 refine⟨len,fun A outer s H args us vs Q E hr c hb r d=>?_⟩;have hl:=len _ _ _ _ d;have g:K.In s.heap:=c.mod.kin.keeps fun b o e=>(c.bs b o e).1;have lim:s.heap.NoLimit:=c.mod.nolimit.keeps fun b o e=>(c.bs b o e).1
 have a:∀y∈ps.zip us,scope.names.lookup y.1=some .local\/(scope.names.lookup y.1=some .cell/\((cellsFrom (s.heap.objs.size+1) scope.names []).lookup y.1).isSome=true):=fun⟨n,v⟩ hy=>by
  rcases S.par n (List.of_mem_zip hy).1 with q|q
  . exact .inl q
  . exact .inr ⟨q,PySem.W.cellsFrom_some _ _ _ (.inl q)⟩
 refine codeAny_call_function hr.depth (g _ _ lk) rfl S.co S.gen rfl (PySem.W.codeRec_of g hcd) (hb _ _ _ _ ?_);refine wpAny_newFunctionEnv_cells S.kind a fun env he s1 x=>?_;subst he;refine⟨lim.keeps x.toInCall.keep,codeAny_func ?_⟩;obtain⟨t,ht,hq⟩:=hbody A outer s H vs Q E (hr.deeper _) d;have I:Inv (cxOf CX P w K mg base N qual scope f cdv A outer s H E) [] (eM N vs) H s1:=oP S hr.hd c hl r x;refine wpAny_mono (ht [] s1 (eM N vs) H _ I hq) (fun fl s' hs=>?_) fun e s' hs=>hs
 have fin:∀ {σ':St} {H':Hp} {v:V} {u:Value},Inv (cxOf CX P w K mg base N qual scope f cdv A outer s H E) [] σ' H' s'->RelV v u->Q v H'->CE outer P w H s Q u s':=
  fun{σ' H' v u} J rv q=>⟨v,H',J.os,J.bare,J.base,J.hok,rv,q⟩
 cases fl with
 |ret u=>
  obtain⟨v,σ',H',J,rv,q⟩:=hs;exact fin J rv q
 |next=>
  obtain⟨σ',H',J,q⟩:=hs;exact fin (v:=V.non) (u:=Value.none) J rfl q
 |brk=>
  obtain⟨_,_,_,q⟩:=hs;exact False.elim q
 |cont=>
  obtain⟨_,_,_,q⟩:=hs;exact False.elim q
open PySem PySem.Spec PyProof.Rows
section
variable{X:Cx}{x:Str}{p pos:Pos}{e:Expr}{es:List Expr}{t:TA}{id T:String}{r:List V->Hp->VK->Prop}
def tCB(r:List V->Hp->VK->Prop)(t:TA):TE:=fun σ H Q=>t σ H fun vs H1=>r vs H1 Q
theorem av(hc:bV X (.builtin id) r)(hg:Gl X x)(hm:X.mg x=none)(hv:bootBuiltins x=some (.builtin id))(ha:PA X (e::es) t)(hn:x≠"__name__":=by decide)(hdb:(x==("__debug__":Str))=false:=by decide)(he:starEach (e::es) X.env=(false,eval e X.env)::starEach es X.env:=by rfl)(hpl:(backTo pos (starEach es X.env)).any (·.1)=false:=by rfl):PE X (.Call (.Name x p) (e::es) [] pos) (tCB r t):=by
 intro pins s σ H Q I h;refine wpAny_Call_Name_kw (eh I hg hm hv ?_ hn hdb);exact PyProof.Rows.callWith_builtin1 (thn (ha pos pins s σ H _ I h) fun us s1 ⟨vs,H1,b,r1,a⟩=>hc pins s1 σ H1 vs us Q b r1 a) he hpl
theorem bE(hc:bV X (.type T) r)(hg:Gl X x)(hm:X.mg x=none)(hv:bootBuiltins x=some (.type T))(ha:PA X (e::es) t)(hn:x≠"__name__":=by decide)(hdb:(x==("__debug__":Str))=false:=by decide)(he:starEach (e::es) X.env=(false,eval e X.env)::starEach es X.env:=by rfl)(hpl:(backTo pos (starEach es X.env)).any (·.1)=false:=by rfl):PE X (.Call (.Name x p) (e::es) [] pos) (tCB r t):=by
 intro pins s σ H Q I h;refine wpAny_Call_Name_kw (eh I hg hm hv ?_ hn hdb);exact PyProof.Rows.callWith_type1 (thn (ha pos pins s σ H _ I h) fun us s1 ⟨vs,H1,b,r1,a⟩=>hc pins s1 σ H1 vs us Q b r1 a) he hpl
end
end L2
namespace HT
open PySem PyProof.Rows
section
open PySem.SeqAt
open PySem.AutoSeq1 (wpAny_loadPart')
open PySem.MeetsSeq PySem.MeetsSeq2 PySem.MeetsSeq3
end
section
variable{prog:Program}{w:World}{A:Around}{E:Value->Shared->Prop}{s:Shared}
noncomputable def sIx(n d:Nat):Option Int->Nat
 |none=>d
 |some v=>if v < 0 then(v+(n:Int)).toNat else min v.toNat n
theorem sIx_none(n d:Nat):sIx n d none=d:=rfl
theorem sIx_nat(n d k:Nat):sIx n d (some (k:Int))=min k n:=by
 show(if (k:Int) < 0 then((k:Int)+(n:Int)).toNat else min (k:Int).toNat n)=min k n;rw[if_neg (by omega),Ad]
end
end HT
namespace L2
open PySem PySem.Spec PyProof.Rows
abbrev TO:=St->Hp->(Option Int->Hp->Prop)->Prop
def PO(X:Cx)(e:Option Expr)(t:TO):Prop:=
 ∀(pins:List (Addr×Obj)) (s:Shared) (σ:St) (H:Hp) (Q:Option Int->Hp->Prop),Inv X pins σ H s->t σ H Q->
  wpAny (model X.prog X.w) X.A (evalPart e X.env) (fun u s'=>∃o H',Inv X pins σ H' s'/\IsPart u o/\Q o H') X.xe s
def uh:TO:=fun _ H Q=>Q none H
def yc(t:TE):TO:=fun σ H Q=>t σ H fun x H1=>∃i,x= .int i/\Q (some i) H1
theorem lO{ns:List Int}:∀ {us:List Value},Vals (ns.map V.int) us->IntsAre us ns:=by
 induction ns with
 |nil=>intro us r;rw[AF]at r;cases r;exact .nil
 |cons n ns a=>
  intro us r;rw[zj]at r
  cases r with
  |cons r1 r2=>
   obtain⟨t,e⟩:=r1;subst e;exact .cons n t (a r2)
section
variable{X:Cx}{e:Expr}{te:TE}{lo hi:Option Expr}{tl th:TO}{pos p2:Pos}
theorem mO:PO X none uh:=by
 intro pins s σ H Q I h;rw[evalPart_none];exact wpAny_pure ⟨none,H,I, .none,h⟩
theorem mN(h:PE X e te):PO X (some e) (yc te):=by
 intro pins s σ H Q I hw;rw[evalPart_some];refine thn (h pins s σ H _ I hw) fun u s1 ⟨x,H1,b,r1,a⟩=>?_;obtain⟨i,rfl,q⟩:=a;obtain⟨t,rfl⟩:=r1;exact⟨some i,H1,b, .int i t,q⟩
def SlR(X:Cx)(r:V->Option Int->Option Int->Hp->VK->Prop):Prop:=
 ∀(pins:List (Addr×Obj)) (s:Shared) (σ:St) (H:Hp) (x:V) (v vl vu:Value) (lo hi:Option Int) (sl:Addr) (Q:VK),Inv X pins σ H s->RelV x v->s.heap.IsSliceOf sl vl vu .none->IsPart vl lo->IsPart vu hi->r x lo hi H Q->
  ∃T id,typeLookup (.type T) "__getitem__"=pure (some (.builtin id))/\s.TypeIs v T/\wpAny (model X.prog X.w) X.A (getItem v (.ref sl)) (EP X pins σ Q) X.xe s
def tSl(r:V->Option Int->Option Int->Hp->VK->Prop)(te:TE)(tl th:TO):TE:=fun σ H Q=>te σ H fun x H1=>tl σ H1 fun l H2=>th σ H2 fun u H3=>r x l u H3 Q
theorem jW{r:V->Option Int->Option Int->Hp->VK->Prop}(hr:SlR X r)(he:PE X e te)(hl:PO X lo tl)(hu:PO X hi th):PE X (.Subscript e (.Slice lo hi none p2) pos) (tSl r te tl th):=by
 intro pins s σ H Q I h;refine Subscript_ (thn (he pins s σ H _ I h) fun v s1 ⟨x,H1,j,r1,c⟩=>?_);refine wpAny_Slice (thn (hl pins s1 σ H1 _ j c) fun vl g ⟨l,H2,o,pl,n⟩=>thn (hu pins g σ H2 _ o n) fun vu a ⟨u,H3,d,i,k⟩=>?_);rw[evalPart_none];refine wpAny_pure ?_;have p:Inv X pins σ H3 {a with heap:=a.heap.push {cls:= .type "slice",data:= .fields #[vl,vu, .none]}}:=d.kept (t':=a.toks) fun b ob q=>Heap.get?_push_of_some _ q;obtain⟨T,id,f,ht,m⟩:=hr pins {a with heap:=a.heap.push {cls:= .type "slice",data:= .fields #[vl,vu, .none]}} σ H3 x v vl vu l u a.heap.objs.size Q p r1 (Heap.IsSliceOf.new ..) pl i k;show wpAny (model X.prog X.w) X.A (subscriptTail e (.Slice lo hi none p2) v (.ref a.heap.objs.size)) (EP X pins σ Q) X.xe {a with heap:=a.heap.push {cls:= .type "slice",data:= .fields #[vl,vu, .none]}};exact tail_any (ops:= [.ref a.heap.objs.size,v]) ht f m (by with_unfolding_all rfl)
noncomputable def cutV(xs:List V)(lo hi:Option Int):List V:=(xs.drop (HT.sIx xs.length 0 lo)).take (HT.sIx xs.length xs.length hi - HT.sIx xs.length 0 lo)
theorem kD(xs:List V)(lo hi:Option Int):(cutV xs lo hi).length<=xs.length:=by
 unfold cutV;rw[zG,List.length_drop];omega
end
open PySem PySem.Spec PyProof.Rows
noncomputable def ixN(n:Nat)(i:Int):Option Nat:=if 0<=i then(if i < n then some i.toNat else none)else if -(n:Int)<=i then some (i+n).toNat else none
noncomputable def atI{α:Type}(xs:List α)(i:Int):Option α:=(ixN xs.length i).bind fun j=>xs[j]?
theorem nE{n:Nat}{i:Int}{j:Nat}(h:ixN n i=some j):seqIndex? i n=some j/\j < n/\ -(n:Int)<=i/\i < n:=by
 unfold ixN at h;by_cases h0:0<=i
 . rw[if_pos h0]at h;by_cases h1:i < n
   . rw[if_pos h1]at h;have e:i.toNat=j:=ze h;exact⟨by rw[seqIndex_of h0 h1,e],by omega,by omega,h1⟩
   . rw[if_neg h1]at h;cases h
 . rw[if_neg h0]at h;by_cases h1:-(n:Int)<=i
   . rw[if_pos h1]at h;have e:(i+n).toNat=j:=ze h;exact⟨by rw[seqIndex_neg (by omega) h1,e],by omega,h1,by omega⟩
   . rw[if_neg h1]at h;cases h
theorem nZ{α:Type}{xs:List α}{i:Int}{v:α}(h:atI xs i=some v):∃j,seqIndex? i xs.length=some j/\xs[j]?=some v/\j < xs.length/\ -(xs.length:Int)<=i/\i < xs.length:=by
 unfold atI at h
 cases e:ixN xs.length i with
 |none=>rw[e]at h;cases h
 |some j=>
  rw[e]at h;obtain⟨h1,h2,h3,a⟩:=nE e;exact⟨j,h1,h,h2,h3,a⟩
theorem aI{α:Type}{xs:List α}{j:Nat}{v:α}(h:xs[j]?=some v):atI xs (j:Int)=some v:=by
 have a:j < xs.length:=(zb.mp h).1
 have e:ixN xs.length (j:Int)=some j:=by
  unfold ixN;rw[if_pos (by omega),if_pos (by omega)];simp
 unfold atI;rw[e];exact h
def vo(b:Expr):Prop:=∀o i,subscripted b false o i=operate [o,i] (getItem o i)
def IxR(X:Cx)(r:R2):Prop:=
 ∀(value slice:Expr) (pins:List (Addr×Obj)) (s:Shared) (σ:St) (H:Hp) (x y:V) (v u:Value) (Q:VK),Inv X pins σ H s->RelV x v->RelV y u->r x y H Q->
  subscripted slice false v u=operate [v,u] (getItem v u)->wpAny (model X.prog X.w) X.A (subscriptTail value slice v u) (EP X pins σ Q) X.xe s
def MtR(X:Cx)(id:String)(r:V->List V->Hp->VK->Prop):Prop:=
 ∀(pins:List (Addr×Obj)) (s:Shared) (σ:St) (H:Hp) (x:V) (xs:List V) (v:Value) (us:List Value) (Q:VK),Inv X pins σ H s->RelV x v->Vals xs us->r x xs H Q->
  wpAny (model X.prog X.w) X.A (call (.builtin id) (v::us)) (EP X pins σ Q) X.xe s
section
variable{X:Cx}{a b:Expr}{ta tb:TE}{pos:Pos}
theorem ao{r:R2}(hr:IxR X r)(ha:PE X a ta)(hb:PE X b tb)(hs:vo b):PE X (.Subscript a b pos) (tOp r ta tb):=by
 intro pins s σ H Q I h;exact Subscript_ (binT ha hb I h fun v u e x y H2 d c f q=>hr a b pins e σ H2 x y v u Q d c f q (hs _ _))
def rIxL(K:PySem.W.Frag):R2:=fun x y H Q=>∃p xs i v,x= .ref p/\y= .int i/\SqL K H p xs/\atI xs i=some v/\Q v H
def rIxT(K:PySem.W.Frag):R2:=fun x y H Q=>∃p xs i v,x= .ref p/\y= .int i/\SqT K H p xs/\atI xs i=some v/\Q v H
theorem aA:IxR X (rIxL X.K):=by
 intro value slice pins s σ H x y v u Q I g e h hs;obtain⟨p,xs,i,z,rfl,rfl,hq,he,q⟩:=h;cases g;obtain⟨t,rfl⟩:=e;obtain⟨its,r,pl,hz⟩:=I.list hq;obtain⟨j,h1,h2,h3,d,f⟩:=nZ he;obtain⟨w,c,a⟩:=r.get h2;have hl:=r.length;have hn:=fG;have fin:EP X pins σ Q w s:=⟨z,H,I,a,q⟩;by_cases h0:0<=i
 . have b:i.toNat=j:=by
    rw[seqIndex_of h0 f]at h1;exact ze h1
   exact item_listR pl.isList h0 (by omega) (by rw[b];simpa using c) fin hs
 . have b:(i+(its.toArray.size:Int)).toNat=j:=by
    rw[seqIndex_neg (by omega) d]at h1
    rw[z9,<-hl];exact ze h1
   exact subscriptTail_builtinR (x:=w) pl.isList.typeIs slot_list_getitem.lookup
    (wpAny_getItem_list_neg (Q:=fun r s'=>r=w/\EP X pins σ Q r s') pl.isList (by omega) (by rw[z9]<;>omega) (by omega) (by rw[b];simpa using c) ⟨rfl,fin⟩) hs
theorem aw:IxR X (rIxT X.K):=by
 intro value slice pins s σ H x y v u Q I d b h hs;obtain⟨p,xs,i,z,rfl,rfl,hq,he,q⟩:=h;cases d;obtain⟨t,rfl⟩:=b;obtain⟨its,r,pl,hz⟩:=I.tuple hq;obtain⟨j,h1,h2,h3,e,f⟩:=nZ he;obtain⟨w,c,a⟩:=r.get h2;have hl:=r.length;have hn:=fG;have fin:EP X pins σ Q w s:=⟨z,H,I,a,q⟩
 exact subscriptTail_builtinR (x:=w) pl.typeIs slot_tuple_getitem.lookup
  (getItem_tuple (j:=j) (Q:=fun r s'=>r=w/\EP X pins σ Q r s') pl (by omega) (by omega) (by rw[z9,<-hl];exact h1) (by simpa using c) ⟨rfl,fin⟩) hs
theorem lH(its:List Value)(n j:Nat)(u:Value):Obj.mapSeq (·.setIfInBounds j u) {cls:= .type "list",data:= .seq its.toArray n} = {cls:= .type "list",data:= .seq (its.set j u).toArray n}:=by
 simp[Obj.mapSeq]
theorem Inv.lst{pins:List (Addr×Obj)}{σ:St}{H:Hp}{s:Shared}{p:Addr}{xs:List V}(I:Inv X pins σ H s)(h:H p=some (.lst xs)):
 ∃(its:List Value) (n:Nat),Vals xs its/\s.heap.get? p=some {cls:= .type "list",data:= .seq its.toArray n}/\xs.length<=sizeLine:=by
 obtain⟨z,its,n,r,e⟩:=I.hok p _ h;exact⟨its,n,r,e,z⟩
theorem Inv.lstUpd{pins:List (Addr×Obj)}{σ:St}{H:Hp}{s:Shared}{p:Addr}{xs ys:List V}{its its':List Value}{n n':Nat}{f:Obj->Obj}(I:Inv X pins σ H s)(h:H p=some (.lst xs))(ho:s.heap.get? p=some {cls:= .type "list",data:= .seq its.toArray n})(hf:f {cls:= .type "list",data:= .seq its.toArray n} = {cls:= .type "list",data:= .seq its'.toArray n'})(r:Vals ys its')(hz:ys.length<=sizeLine)(t:Nat):
 Inv X pins σ (upd H p (.lst ys)) {s with heap:=s.heap.update p f,toks:=t}:=by
 have e:(s.heap.update p f).get? p=some {cls:= .type "list",data:= .seq its'.toArray n'}:=by
  rw[Heap.get?_update_self f ho (by rw[hf]<;>rfl),hf]
 refine I.write (x:=p) (e:=p) (by rw[h];trivial) (.inl rfl) (fun b u hb q=>(Heap.get?_update_other _ _ (Ne.symm hb)).trans q) ⟨_,e⟩ ?_
 exact⟨hz,its',n',r,e⟩
def yE:V->V->V->Hp->(Hp->Prop)->Prop:=fun o i v H Q=>∃p xs k j,o= .ref p/\i= .int k/\H p=some (.lst xs)/\ixN xs.length k=some j/\Q (upd H p (.lst (xs.set j v)))
theorem dr:PSet X yE:=by
 intro pins s σ H o i v ov iv u Q I ro d rv h;obtain⟨p,xs,k,j,rfl,rfl,hp,c,q⟩:=h;cases ro;obtain⟨t,rfl⟩:=d;obtain⟨its,n,r,ho,hz⟩:=I.lst hp;obtain⟨h1,h2,h3,a⟩:=nE c;have hl:=r.length;have hn:=fG
 have b:Inv X pins σ (upd H p (.lst (xs.set j v))) {s with heap:=s.heap.update p (Obj.mapSeq (·.setIfInBounds j u))}:=
  I.lstUpd hp ho (lH its n j u) (r.set rv j) (by rw[List.length_set];exact hz) s.toks
 by_cases h0:0<=k
 . have hk:k.toNat=j:=by
    rw[seqIndex_of h0 a]at h1;exact ze h1
   exact PySem.W.ki_setAt ho h0 (by omega) (by rw[z9,<-hl];exact a) (by rw[hk];exact⟨_,b,q⟩)
 . have hk:(k+(its.toArray.size:Int)).toNat=j:=by
    rw[seqIndex_neg (by omega) h3]at h1
    rw[z9,<-hl];exact ze h1
   exact PySem.W.ki_setBack ho (by omega) (by rw[z9,<-hl];exact h3) (by omega) (by rw[hk];exact⟨_,b,q⟩)
theorem jc(lo hi:Option Int)(n:Nat):(sliceBounds lo hi none n).1=((HT.sIx n 0 lo:Nat):Int)/\(sliceBounds lo hi none n).2.1=((HT.sIx n n hi:Nat):Int)/\(sliceBounds lo hi none n).2.2=1:=by
 refine⟨?_,?_,rfl⟩
 . cases lo with
   |none=>simp[sliceBounds,HT.sIx]
   |some i=>
    simp only[sliceBounds,HT.sIx,Option.getD_none,show(1:Int) > 0 by decide,if_true]
    by_cases h:i < 0
    . simp only[h,if_true]<;>omega
    . simp only[h,if_false]<;>omega
 . cases hi with
   |none=>simp[sliceBounds,HT.sIx]
   |some i=>
    simp only[sliceBounds,HT.sIx,Option.getD_none,show(1:Int) > 0 by decide,if_true]
    by_cases h:i < 0
    . simp only[h,if_true]<;>omega
    . simp only[h,if_false]<;>omega
theorem ir(its:List Value)(lo hi:Option Int):slicePick its.toArray lo hi none=((its.drop (HT.sIx its.length 0 lo)).take (HT.sIx its.length its.length hi - HT.sIx its.length 0 lo)).toArray:=by
 obtain⟨h1,h2,h3⟩:=jc lo hi its.toArray.size;unfold slicePick;rw[h1,h2,h3];simp only[sliceRange_one,pick_run,z9]<;>rfl
def rSlL(K:PySem.W.Frag):V->Option Int->Option Int->Hp->VK->Prop:=fun x lo hi H Q=>∃a xs,x= .ref a/\SqL K H a xs/\∀p,H p=none->Q (.ref p) (upd H p (.lst (cutV xs lo hi)))
theorem mG:SlR X (rSlL X.K):=by
 intro pins s σ H x v vl vu lo hi sl Q I e hs pl d h;obtain⟨a,xs,rfl,hx,q⟩:=h;cases e;obtain⟨its,r,ht,hz⟩:=I.list hx;have c:=r.length;refine⟨"list",_,slot_list_getitem.lookup,ht.isList.typeIs,?_⟩;refine wpAny_getItem_list_slice ht.isList hs pl d .none (by simp) ?_ (by rw[z9]<;>omega)
 rw[ir,<-c];refine⟨.ref s.heap.objs.size,_,I.laid (t':=s.toks) (o:= .lst (cutV xs lo hi)) (fun b ob q=>Heap.get?_push_of_some _ q) (z4 _) ?_,rfl,q _ (I.hok.fresh (z4 _))⟩;exact⟨zh (kD xs lo hi) hz,_,0,(r.drop (HT.sIx xs.length 0 lo)).take (HT.sIx xs.length xs.length hi - HT.sIx xs.length 0 lo),Heap.get?_push_size _ rfl⟩
theorem ar:bV X (.builtin "len") (fun xs H Q=>∃p ys,xs= [.ref p]/\(SqL X.K H p ys\/SqT X.K H p ys)/\Q (.int ys.length) H):=by
 intro pins s σ H xs us Q I r h;obtain⟨p,ys,rfl,hq,q⟩:=h;obtain⟨u,rfl,b⟩:=cG r;cases b;have hn:=fG;rcases hq with hq|hq
 . obtain⟨its,r',pl,hz⟩:=I.list hq;have a:=r'.length;exact Calls.call_len_list pl.isList (by simp only[z9]<;>omega) ⟨.int ys.length,H,I.tok _,⟨s.toks+1,by rw[z9,a]⟩,q⟩
 . obtain⟨its,r',pl,hz⟩:=I.tuple hq;have a:=r'.length;exact len_tuple pl (by simp only[z9]<;>omega) ⟨.int ys.length,H,I.tok _,⟨s.toks+1,by rw[z9,a]⟩,q⟩
theorem dl:bV X (.type "list") (fun xs H Q=>∃p ys,xs= [.ref p]/\(SqL X.K H p ys\/SqT X.K H p ys)/\∀l,H l=none->Q (.ref l) (upd H l (.lst ys))):=by
 intro pins s σ H xs us Q I r h;obtain⟨p,ys,rfl,hq,q⟩:=h;obtain⟨u,rfl,d⟩:=cG r;cases d
 have fin:∀(its:List Value),Vals ys its->ys.length<=sizeLine->∀(h':Heap) (a:Nat),(∀b o',s.heap.get? b=some o'->h'.get? b=some o')->
  h'.get? s.heap.objs.size=some {cls:= .type "list",dict:=none,data:= .seq its.toArray a,slots:= #[]}->EP X pins σ Q (.ref s.heap.objs.size) {s with heap:=h'}:=fun its r' hz h' a kp e=>
  ⟨.ref s.heap.objs.size,_,I.laid (t':=s.toks) kp (z4 _) (show ObjOk X.prog X.w _ h' _ (.lst ys)from⟨hz,its,a,r',e⟩),rfl,q _ (I.hok.fresh (z4 _))⟩
 rcases hq with hq|hq
 . obtain⟨its,r',pl,hz⟩:=I.list hq;have c:=r'.length;obtain⟨o,ho,hc,n,hd⟩:=pl.isList;exact call_list_seq p (.inl rfl) ho hc hd (fun h' a kp e=>fin its r' hz h' a kp e) (by simp only[z9]<;>omega)
 . obtain⟨its,r',pl,hz⟩:=I.tuple hq;have c:=r'.length;obtain⟨o,ho,hc,n,hd⟩:=pl;exact call_list_seq p (.inr rfl) ho hc hd (fun h' a kp e=>fin its r' hz h' a kp e) (by simp only[z9]<;>omega)
theorem dX:bV X (.type "tuple") (fun xs H Q=>∃p ys,xs= [.ref p]/\((SqL X.K H p ys/\∀l,H l=none->Q (.ref l) (upd H l (.tup ys)))\/(SqT X.K H p ys/\Q (.ref p) H))):=by
 intro pins s σ H xs us Q I r h;obtain⟨p,ys,rfl,h⟩:=h;obtain⟨u,rfl,d⟩:=cG r;cases d;rcases h with⟨hq,q⟩|⟨hq,q⟩
 . obtain⟨its,r',pl,hz⟩:=I.list hq;have a:=r'.length;refine call_tuple_list pl.isList (fun h' kp=>?_) (by simp only[z9]<;>omega)
   have c:Inv X pins σ H {s with heap:=h'}:=I.kept (t':=s.toks) kp
   have f:Inv X pins σ (upd H h'.objs.size (.tup ys)) {s with heap:=h'.push {cls:= .type "tuple",data:= .seq its.toArray}}:=
    c.laid (t':=s.toks) (fun b o e=>Heap.get?_push_of_some _ e) (z4 _) (show ObjOk X.prog X.w _ _ _ (.tup ys)from⟨hz,its,r',IsTup.new _ _⟩)
   exact⟨.ref h'.objs.size,_,f,rfl,q _ (c.hok.fresh (z4 _))⟩
 . obtain⟨its,r',pl,hz⟩:=I.tuple hq;exact call_tuple_same pl ⟨.ref p,H,I,rfl,q⟩
def tyV(K:PySem.W.Frag)(T:String)(x:V)(H:Hp):Prop:=match x with
 | .str _=>T= "str"
 | .int _=>T= "int"
 | .ref p=>(T= "list"/\∃xs,SqL K H p xs)\/(T= "tuple"/\∃o,K.lookup p=some o/\o.cls= .type "tuple"/\o.dict=none)\/
  (T= "dict"/\((∃kvs,H p=some (.dK kvs))\/∃kvs,H p=some (.dT kvs)))\/(T= "set"/\∃S n,H p=some (.set S n))
 |_=>False
theorem pe{pins:List (Addr×Obj)}{σ:St}{H:Hp}{s:Shared}{T:String}{x:V}{v:Value}(I:Inv X pins σ H s)(r:RelV x v)(ty:tyV X.K T x H):
 s.TypeIs v T/\∀a,v= .ref a->∃ob,s.heap.get? a=some ob/\ob.dict=none:=by
 cases x with
 |str z=>
  obtain⟨t,rfl⟩:=r;cases (show T= "str" from ty);exact⟨typeIs_str s z t,fun _ e=>nomatch e⟩
 |int i=>
  obtain⟨t,rfl⟩:=r;cases (show T= "int" from ty);exact⟨typeIs_int s i t,fun _ e=>nomatch e⟩
 |ref p=>
  cases r;rcases ty with⟨rfl,xs,hq⟩|⟨rfl,o,hk,hc,hd⟩|⟨rfl,hk⟩|⟨rfl,S,n,hk⟩
  . obtain⟨its,_,pl,_⟩:=I.list hq;refine⟨pl.isList.typeIs,fun a e=>?_⟩;cases e;obtain⟨o,n,e,c,hd,_⟩:=pl;exact⟨o,e,hd⟩
  . refine⟨⟨o,I.kIn p o hk,hc⟩,fun a e=>?_⟩;cases e;exact⟨o,I.kIn _ o hk,hd⟩
  . have z:∃o,s.heap.get? p=some o/\o.ExactDict:=by
     rcases hk with⟨kvs,hk⟩|⟨kvs,hk⟩
     . obtain⟨_,_,_,_,o,_,_,e,ex,_⟩:=I.hok p _ hk;exact⟨o,e,ex⟩
     . obtain⟨_,_,_,_,o,_,_,e,ex,_⟩:=I.hok p _ hk;exact⟨o,e,ex⟩
    obtain⟨o,e,ex⟩:=z;refine⟨⟨o,e,ex.1⟩,fun a e2=>?_⟩;cases e2;exact⟨o,e,ex.2.1⟩
  . obtain⟨o,_,_,_,e,ex,_⟩:=I.hok p _ hk;refine⟨⟨o,e,ex.1⟩,fun a e2=>?_⟩;cases e2;exact⟨o,e,ex.2.1⟩
 |_=>exact False.elim ty
def tBM0(K:PySem.W.Frag)(T:String)(r:V->List V->Hp->VK->Prop)(to:TE):TE:=fun σ H Q=>to σ H fun x H1=>tyV K T x H1/\r x [] H1 Q
def tBM(K:PySem.W.Frag)(T:String)(r:V->List V->Hp->VK->Prop)(to:TE)(t:TA):TE:=fun σ H Q=>to σ H fun x H1=>tyV K T x H1/\t σ H1 fun xs H2=>r x xs H2 Q
variable{o e:Expr}{es:List Expr}{to:TE}{t:TA}{name:Str}{apos cpos:Pos}{T id:String}{r:V->List V->Hp->VK->Prop}
theorem wx(pa:PlainAttrs T)(slot:Slot T name id)(hty:typeOf (.builtin id)=pure (.type "method_descriptor"))(hm:MtR X id r)(ho:PE X o to)(hbase:attributeBase o name X.env (eval o X.env)=eval o X.env:=by rfl)(hline:(apos.endLine==cpos.line)=true:=by rfl):PE X (.Call (.Attribute o name apos) [] [] cpos) (tBM0 X.K T r to):=by
 intro pins s σ H Q I h;refine wpAny_Call_method0_late hbase hline (thn (ho pins s σ H _ I h) fun v s1 ⟨x,H1,a,r1,ty,b⟩=>?_);obtain⟨h1,h2⟩:=pe a r1 ty;exact⟨T,id,pa,slot,hty,h1,h2,Calls.callWith_builtin rfl (PySem.evalArgs_none (hm pins s1 σ H1 x [] v [] Q a r1 .nil b))⟩
theorem gW(pa:PlainAttrs T)(slot:Slot T name id)(hty:typeOf (.builtin id)=pure (.type "method_descriptor"))(hm:MtR X id r)(ho:PE X o to)(ha:PA X (e::es) t)(hbase:attributeBase o name X.env (eval o X.env)=eval o X.env:=by rfl)(hfew:((backTo cpos (starEach (e::es) X.env)).all (fun x=> !x.1)&& (backToKw cpos (keywordEach [] X.env)).all (fun x=>x.1.isSome)
  &&decide ((e::es).length+([]:List Keyword).length+(if ([]:List Keyword).isEmpty then 0 else 1) < 30))=true:=by rfl)(hline:(apos.endLine==cpos.line)=true:=by rfl)(hs:starEach (e::es) X.env=(false,eval e X.env)::starEach es X.env:=by rfl)(hplain:(backTo cpos (starEach es X.env)).any (·.1)=false:=by rfl):
 PE X (.Call (.Attribute o name apos) (e::es) [] cpos) (tBM X.K T r to t):=by
 intro pins s σ H Q I h;refine wpAny_Call_method_late hbase hfew hline rfl (thn (ho pins s σ H _ I h) fun v s1 ⟨x,H1,a,r1,ty,c⟩=>?_);obtain⟨h1,h2⟩:=pe a r1 ty;refine⟨T,id,pa,slot,hty,h1,h2,?_⟩;have b:=ha cpos pins s1 σ H1 _ a c;rw[hs]at b ⊢;refine Calls.callWith_builtin (by show(false ||(backTo cpos (starEach es X.env)).any (·.1))=false;rw[hplain]<;>rfl) (Calls.evalArgs_plain ?_)
 exact thn b fun us d ⟨vs,H2,g,r2,f⟩=>hm pins d σ H2 x vs v us Q g r1 r2 f
end
open PySem PySem.Spec PyProof.Rows
def MtM(X:Cx)(id:String)(r:V->List V->Hp->VK->Prop):Prop:=
 ∀(pins:List (Addr×Obj)) (s:Shared) (σ:St) (H:Hp) (x:V) (xs:List V) (v:Value) (us:List Value) (Q:VK),Inv X pins σ H s->RelV x v->Vals xs us->r x xs H Q->
  wpAny (model X.prog X.w) X.A (call (.builtin id) (v::us)) (EP X pins σ Q) X.xe s
theorem Vals.one:∀ {x:V} {us:List Value},Vals [x] us->∃u,us= [u]/\RelV x u
 |_,_, .cons r .nil=>⟨_,rfl,r⟩
theorem Vals.two{x y:V}{us:List Value}(h:Vals [x,y] us):∃u v,us= [u,v]/\RelV x u/\RelV y v:=by
 cases h with
 |cons r t=>cases t with
  |cons q t'=>cases t';exact⟨_,_,rfl,r,q⟩
theorem Vals.zero:∀ {us:List Value},Vals [] us->us= []
 |_, .nil=>rfl
theorem Vals.reverse{xs:List V}{us:List Value}(h:Vals xs us):Vals xs.reverse us.reverse:=by
 induction h with
 |nil=>exact .nil
 |cons r t a=>rw[List.reverse_cons,List.reverse_cons];exact Vals.append a (.cons r .nil)
section
variable{X:Cx}{pins:List (Addr×Obj)}{σ:St}{H:Hp}{s:Shared}{l b:Addr}{xs ys zs:List V}
theorem Inv.lset{its its':List Value}{n:Nat}{f:Array Value->Array Value}{t':Nat}(I:Inv X pins σ H s)(hH:H l=some (.lst xs))(e:s.heap.get? l=some {cls:= .type "list",data:= .seq its.toArray n})(hf:f its.toArray=its'.toArray)(hv:Vals ys its')(hz:ys.length<=sizeLine):
 Inv X pins σ (upd H l (.lst ys)) {s with heap:=s.heap.update l (Obj.mapSeq f),toks:=t'}:=by
 have q:=PySem.IsL.update e f;rw[hf]at q;refine I.write (x:=l) (e:=l) (by rw[hH];exact trivial) (.inl rfl) (fun a u hb hu=>(Heap.get?_update_other s.heap (Obj.mapSeq f) (Ne.symm hb)).trans hu) ⟨_,q⟩ ?_
 exact⟨hz,its',_,hv,q⟩
theorem Inv.lnew{its:List Value}{t':Nat}(I:Inv X pins σ H s)(hv:Vals ys its)(hz:ys.length<=sizeLine):
 Inv X pins σ (upd H s.heap.objs.size (.lst ys)) {s with heap:=s.heap.push {cls:= .type "list",data:= .seq its.toArray},toks:=t'}:=
 I.laid (fun _ _ q=>Heap.get?_push_of_some _ q) (z4 _) ⟨hz,its,0,hv,Heap.get?_push_size _ rfl⟩
theorem Inv.fresh(I:Inv X pins σ H s):H s.heap.objs.size=none:=I.hok.fresh (z4 _)
theorem Inv.lstM(I:Inv X pins σ H s)(hH:H l=some (.lst xs)):xs.length<=sizeLine/\∃(its:List Value) (n:Nat),Vals xs its/\xs.length=its.length/\s.heap.get? l=some {cls:= .type "list",data:= .seq its.toArray n}:=by
 obtain⟨z,its,n,r,e⟩:=I.hok l _ hH;exact⟨z,its,n,r,r.length,e⟩
end
section
variable{X:Cx}
def ux:V->List V->Hp->VK->Prop:=fun x vs H Q=>∃l xs y,x= .ref l/\vs= [y]/\H l=some (.lst xs)/\xs.length < sizeLine/\Q .non (upd H l (.lst (xs++ [y])))
theorem cB:MtM X "list.append" ux:=by
 intro pins s σ H x vs v us Q I c rv h;obtain⟨l,xs,y,rfl,rfl,a,hz,q⟩:=h;cases c;obtain⟨u,rfl,b⟩:=rv.one;obtain⟨z,its,n,r,hl,e⟩:=I.lstM a;refine call_meets F.slot_list_append ⟨_,e,rfl⟩ F.entry_list_append (F.args_list_append_2 _ _) (PySem.list_append l its.toArray n u (by rw[z9];omega)) ⟨e,?_⟩
 refine⟨.non,_,I.lset (its':=its++ [u]) a e (by simp) (r.append (.cons b .nil)) ?_,rfl,q⟩
 rw[zK,List.length_singleton];omega
def wn:V->List V->Hp->VK->Prop:=fun x vs H Q=>∃l xs,x= .ref l/\vs= []/\H l=some (.lst xs)/\Q .non (upd H l (.lst []))
theorem sk:MtM X "list.clear" wn:=by
 intro pins s σ H x vs v us Q I c rv h;obtain⟨l,xs,rfl,rfl,b,q⟩:=h;cases c;have a:=rv.zero;subst a;obtain⟨z,its,n,r,hl,e⟩:=I.lstM b;refine call_meets F.slot_list_clear ⟨_,e,rfl⟩ F.entry_list_clear (F.args_list_clear_1 _) (AutoSeq1.list_clear_list_0 l its.toArray n (by rw[z9];omega)) ⟨e,?_⟩
 exact⟨.non,_,I.lset (its':= []) (ys:= []) b e rfl .nil (zr _),rfl,q⟩
def rCat:R2:=fun x y H Q=>∃l b xs zs,x= .ref l/\y= .ref b/\H l=some (.lst xs)/\H b=some (.lst zs)/\xs.length+zs.length<=sizeLine/\∀p,H p=none->Q (.ref p) (upd H p (.lst (xs++zs)))
theorem dC:OpR X (binaryOp .Add) rCat:=by
 intro pins s σ H x y v u Q I i d h;obtain⟨l,b,xs,zs,rfl,rfl,f,j,hz,q⟩:=h;cases i;cases d;obtain⟨z,its,n,r,hl,e⟩:=I.lstM f;obtain⟨k,a,n2,r2,c,e2⟩:=I.lstM j;refine PySem.P.add_list e e2 ?_ (by rw[z9,z9];omega)
 have g:its.toArray++a.toArray=(its++a).toArray:=by simp
 rw[g];exact⟨.ref _,_,I.lnew (t':=s.toks) (r.append r2) (by rw[zK];omega),rfl,q _ I.fresh⟩
end
section
variable{prog:Program}{w:World}{A:Around}{E:Value->Shared->Prop}{s:Shared}
end
section
variable{X:Cx}
end
end L2
namespace Att
open PySem PySem.W PySem.Calls PyProof.Rows
theorem fY{P:Params}{h:Heap}:∀(ns:List Int) (vs:List Value),WellAll P h vs (ns.map WData.int)->IntsAre vs ns:=by
 intro ns
 induction ns with
 |nil=>
  intro vs w;rw[AF]at w;cases w;exact .nil
 |cons n ns c=>
  intro vs w;rw[zj]at w
  cases w with
  |cons a b=>
   cases a;exact .cons _ _ (c _ b)
theorem ou{l:OpenLaw}{n:Nat}(hn:l.most=some n){P:Params}{h:Heap}{args:List WData}{vals:List Value}(hpre:l.row.toRowW.claim.pre args=true)(hwl:WellAll P h vals args):
 ∃a vs ns,vals= [Value.ref a]/\args= [WData.list (ns.map WData.int)]/\h.get? a=some {cls:= .type "list",data:= .seq vs.toArray}/\IntsAre vs ns/\ns.length<=n:=by
 have g:WShape.hasAll [] args [.list .int]=true:=(pre_splitW hpre).1;have hc:l.pre.holds [] {args:=args} =true:=(pre_splitW hpre).2;obtain⟨d,r,rfl,h1,h2⟩:=hasAllW_cons g;obtain rfl:=hasAllW_nil h2;obtain⟨xs,rfl,h3⟩:=hasW_list h1;obtain⟨ns,rfl⟩:=items_int h3
 have c:ns.length<=n:=by
  unfold OpenLaw.pre at hc
  have e:(WTm.not (.lt (.lit (.int (n:Int))) (.len (.arg 0)))).holds [] {args:= [.list (ns.map .int)]} =true:=by
   have e:=(holds_andW hc).1;rw[hn]at e;exact e
  have f:=condW_of e (w_not (w_lt w_lit (w_len_list (w_arg rfl))));rw[yY]at f;refine Nat.le_of_not_lt fun q=>?_;have k:(n:Int) < ((ns.length:Nat):Int):=by omega
  first
   |(rw[decide_eq_true k]at f;exact absurd f (by decide))
   |(simp at f;omega)
 cases hwl with
 |cons j i=>
  cases i
  cases j with
  |list ho b=>exact⟨_,_,ns,rfl,rfl,ho,fY ns _ b,c⟩
theorem oz(l:OpenLaw)(args:List WData):l.row.toRowW.claim.post args (.bool true) args=true:=
 postW_of (r:=l.row.toRowW) (X:=(true==true))
  (show WShape.has [] (.bool true) .bool=true by first|rfl|decide|simp[WShape.has,WShape.arms,WShape.armsAll])
  (show(WTm.eq .res (.lit (.bool true))).value [] {args:=args,res:=some (.bool true),after:=args} =some (.bool (true==true))from w_eq_bool (w_res rfl) w_lit) rfl
theorem attach_call{l:OpenLaw}{n:Nat}{q:Program}{loose:List Str}{XP:(Str->Option Value)->Heap->Prop}{YP:World->Heap->Prop}{d:DefRec}(hn:l.most=some n)(hdf:d.params.defaults= [])(call:∀(w:World) (s₀ s₁:Shared) (mg mb:Str->Option Value) (fa:Addr) (o:Obj) (pm cd doc:Value) (a:Addr) (vs:List Value) (ns:List Int),
  Ground q loose [] XP w s₀ mg mb s₁.heap->YP w s₁.heap->
  s₁.heap.get? fa=some o->o.data= .func (docDef d.name d.params d.body d.scope pm cd doc)->s₁.heap.CodeRec cd d.name->mg d.name=some (.ref fa)->
  s₁.heap.get? a=some {cls:= .type "list",data:= .seq vs.toArray}->IntsAre vs ns->ns.length<=n->s₁.gens= #[]->
  codeAny (model l.prog w) callerA (.call (.ref fa) ⟨[.ref a],[]⟩) (fun r s'=>r= .ok (.ret (.bool true))/\OldK s₁.heap s'.heap/\s'.os=s₁.os/\AllBare s'.gens) s₁):
 WalkO q loose XP YP l.row.toRowW d [] (fun f vs=>PySem.call f vs):=by
 intro w s₀ s₁ mg mb G Y fa o pm cd doc t kV ho hd i k h u args vals as c m v j s;obtain rfl:t= .none:=Dflts.none k hdf;obtain rfl:kV= .none:=Dflts.noKw k;obtain⟨a,vs,ns,rfl,rfl,g,b,e⟩:=ou hn c j;refine enter_call (codeAny_mono (call w s₀ s₁ mg mb fa o pm cd doc a vs ns G Y ho (fd_plain hd) i h g b e u) fun r s' hq=>?_);obtain⟨rfl,h2,h3,p⟩:=hq;exact⟨.inl ⟨.bool true, .bool true,[],rfl,fun _=>rfl, .bool true,oz l _,fun _=>⟨List.Pairwise.nil,fun _ hm=>(nomatch hm)⟩⟩,h2,h3,p⟩
section
variable{prog:Program}{w:World}{A:Around}{E:Value->Shared->Prop}{s:Shared}{K:Frag}
end
end Att
namespace L2
open PySem PySem.Spec PyProof.Rows
theorem iz:∀ {vs:List Value} {ns:List Int},IntsAre vs ns->Vals (ns.map V.int) vs
 |_,_, .nil=> .nil
 |_,_, .cons n t h=> .cons ⟨t,rfl⟩ (iz h)
def Only(H:Hp):Prop:=∀b,H b=none\/∃o xs,H b=some (.frz o (.lst xs))
open PySem PySem.Spec PyProof.Rows
open PySem PySem.Spec PyProof.Rows
noncomputable def uX(s:Stmt)(j:Nat):Stmt:=match s with
 | .ClassDef _ _ _ body _ _ _ _ _ _ _=>body.getD j (.Pass ⟨0,0,0,0⟩)
 |_=> .Pass ⟨0,0,0,0⟩
noncomputable def b9(s:Stmt):Arguments:=match s with
 | .FunctionDef _ a _ _ _ _ _ _ _ _=>a
 |_=> {posonlyargs:= [],args:= [],vararg:=none,kwonlyargs:= [],kw_defaults:= [],kwarg:=none,defaults:= []}
noncomputable def aM(s:Stmt):List Stmt:=match s with
 | .FunctionDef _ _ b _ _ _ _ _ _ _=>b
 |_=> []
noncomputable def ah(s:Stmt):Scope:=match s with
 | .FunctionDef _ _ _ _ _ _ sc _ _ _=>sc
 |_=> {kind:= .function,names:= [],isGenerator:=false,isCoroutine:=false}
abbrev CX0:CXT:=fun _ _ _ _ _ _=>False
abbrev E0:XK:=fun _ _ _=>False
theorem gX{X:Cx}:io CX0 X E0:=fun _ _ _ _ _ _ _ h=>h.elim
structure Fun (K:PySem.W.Frag) (x qual:Str) (st:Stmt) (f:Addr) (fd:FuncData):Prop where
 ex:∃(oc:Value) (od:Option Addr) (kV doc pm:Value) (an:Option Addr) (cdv ct:Value) (osl:Array (Option Value)),
  fd=PySem.W.fnOf x qual (b9 st) (aM st) (ah st) .none kV doc pm an cdv ct/\K.lookup f=some ⟨oc,od, .func fd,osl⟩/\PySem.W.codeIn K cdv qual=true
 kp:PySem.W.keepIn K (.ref f)=true
section
variable{P:Program}{w:World}{K:PySem.W.Frag}{mg:Str->Option Value}{base:Heap}
theorem Fun.ok{x qual:Str}{st:Stmt}{f:Addr}{fd:FuncData}{N ps:List Str}{k:Nat}{sp:Sp}(F:Fun K x qual st f fd)(S:FnScope N ps (ah st))(len:∀vs H Q E,sp vs H Q E->vs.length=ps.length)(hbody:∀(cdv:Value) (A:Around) (outer:List Env) (s:Shared) (H:Hp) (vs:List V) (Q:VK) (E:XK),Room k (A.deeper (envOfC qual (ah st) s.heap.objs.size f cdv))->sp vs H Q E->
  ∃t,PSs (cxOf CX0 P w K mg base N qual (ah st) f cdv A outer s H E).nox (aM st) t/\t {nx:=fun _ H'=>Q .non H',rt:=Q} (eM N vs) H):FnOk P w K mg base CX0 (k+1) f fd ps sp:=by
 obtain⟨e,g,kV,c,pm,an,cdv,ct,d,rfl,lk,a⟩:=F.ex;refine vM lk a S len fun A outer s H vs Q E hr b=>?_;obtain⟨t,h,q⟩:=hbody cdv A outer s H vs Q E hr b;exact⟨t,h.nox,q⟩
theorem Fun.binds{x qual:Str}{st:Stmt}{f:Addr}{fd:FuncData}{ps:List Str}(F:Fun K x qual st f fd)(h:∀(kV doc pm:Value) (an:Option Addr) (cdv ct:Value) (us:List Value),us.length=ps.length->bindArgs (PySem.W.fnOf x qual (b9 st) (aM st) (ah st) .none kV doc pm an cdv ct) ⟨us,[]⟩=pure (ps.zip us)):Binds K fd ps []:=by
 obtain⟨c,d,kV,doc,pm,an,cdv,ct,b,rfl,lk,a⟩:=F.ex;exact .all (h kV doc pm an cdv ct)
theorem xG{x qual:Str}{st:Stmt}{f:Addr}{oc:Value}{od an:Option Addr}{osl:Array (Option Value)}{kV doc pm cdv ct:Value}(l:K.lookup f=some ⟨oc,od, .func (PySem.W.fnOf x qual (b9 st) (aM st) (ah st) .none kV doc pm an cdv ct),osl⟩)(c:PySem.W.codeIn K cdv qual=true)(k:PySem.W.keepIn K (.ref f)=true):Fun K x qual st f (PySem.W.fnOf x qual (b9 st) (aM st) (ah st) .none kV doc pm an cdv ct):=⟨⟨oc,od,kV,doc,pm,an,cdv,ct,osl,rfl,l,c⟩,k⟩
end
theorem vK{A:Around}{k:Nat}(hr:Room k A):A.units+1 < cLine:=zg (Ac (by decide:1<=64) _) hr.units
section
variable{X:Cx}
theorem pv(i:Nat){x:Str}{pos:Pos}(hN:X.N[i]?=some x:=by rfl)(hv:Vis X.env.scope x:=by first|exact Or.inl rfl|exact Or.inr (Or.inl rfl)|exact Or.inr (Or.inr rfl))(hd:(x==("__debug__":Str))=false:=by decide)(hcd:(x==("__classdict__":Str))=false:=by decide):PE X (.Name x pos) (tVar i):=rG hN hv hd hcd
end
theorem iteF{A B:Prop}(h:B):if false=true then A else B:=by
 rw[if_neg zo];exact h
theorem iteT{A B:Prop}(h:A):if true=true then A else B:=by
 rw[if_pos rfl];exact h
theorem ite2{c A B:Prop}[Decidable c](h1:c->A)(h2:¬c->B):if c then A else B:=by
 by_cases h:c
 . rw[if_pos h];exact h1 h
 . rw[if_neg h];exact h2 h
def Same(H H':Hp):Prop:=∀b o,H b=some o->H' b=some o
theorem Same.refl(H:Hp):Same H H:=fun _ _ h=>h
theorem Same.trans{H H1 H2:Hp}(a:Same H H1)(b:Same H1 H2):Same H H2:=fun c o h=>b c o (a c o h)
theorem Same.free{H H':Hp}(e:Same H H'){l:Addr}(h:H' l=Option.none):H l=Option.none:=by
 cases q:H l with
 |none=>rfl
 |some o=>
  rw[e l o q]at h;cases h
end L2
namespace Srt
open PySem PySem.W PyProof.Rows
structure Ord (lt:Nat->Nat->Bool):Prop where
 asym:∀a b,lt a b=true->lt b a=false
 tr:∀a b c,lt b a=false->lt c b=false->lt c a=false
theorem Ord.refl{lt:Nat->Nat->Bool}(O:Ord lt)(a:Nat):lt a a=false:=by
 cases e:lt a a with
 |false=>rfl
 |true=>exact(O.asym a a e).symm.trans e |>.symm
theorem Ord.up{lt:Nat->Nat->Bool}(O:Ord lt){a b c:Nat}(h:lt a b=true)(h2:lt c b=false):lt a c=true:=by
 cases e:lt a c with
 |true=>rfl
 |false=>
  have:=O.tr b c a h2 e;rw[h]at this;cases this
def Tri{α:Type}(lt:Nat->Nat->Bool)(N:Nat)(Post:α->Prop):KasT α->Prop
 | .ret a=>Post a
 | .ask i j k=>i < N/\j < N/\Tri lt N Post (k (lt i j))
variable{lt:Nat->Nat->Bool}{N:Nat}
theorem cR{α β:Type}{Post:β->Prop}{f:α->KasT β}:∀ {t:KasT α},Tri lt N (fun a=>Tri lt N Post (f a)) t->Tri lt N Post (t.bind f)
 | .ret a,h=>h
 | .ask i j k,h=>⟨h.1,h.2.1,cR h.2.2⟩
theorem bv{α:Type}{P Q:α->Prop}(hPQ:∀a,P a->Q a):∀ {t:KasT α},Tri lt N P t->Tri lt N Q t
 | .ret a,h=>hPQ a h
 | .ask i j k,h=>⟨h.1,h.2.1,bv hPQ h.2.2⟩
theorem pi{α:Type}{cmp:Nat->Nat->(Bool->Shared->Prop)->Shared->Prop}{G:Shared->Prop}{Post:α->Prop}{Q:α->Shared->Prop}(hc:∀i j (R:Bool->Shared->Prop) s,i < N->j < N->G s->(∀s',G s'->R (lt i j) s')->cmp i j R s)(hQ:∀a s,Post a->G s->Q a s):∀ {t:KasT α} {s:Shared},Tri lt N Post t->G s->t.kasWp cmp Q s
 | .ret a,s,h,g=>hQ a s h g
 | .ask i j k,s,h,g=>hc i j _ s h.1 h.2.1 g fun s' g'=>pi hc hQ h.2.2 g'
def g(p:Array Nat)(k:Nat):Nat:=p.getD k 0
def Pm(N:Nat)(p:Array Nat):Prop:=p.toList.Perm (List.range N)
theorem Pm.size{p:Array Nat}(h:Pm N p):p.size=N:=by
 have:=h.length_eq;rw[zO,zY]at this;exact this
theorem dF{p:Array Nat}(k:Nat):g p k=(p[k]?).getD 0:=by
 unfold g;rw[Array.getD_eq_getD_getElem?]
theorem Pm.bd{p:Array Nat}(h:Pm N p){k:Nat}(hk:k < N):g p k < N:=by
 have hs:=h.size;have:p[k]?=some (p[k]'(by omega)):=zQ _
 rw[dF,this];have m:p[k]'(by omega)∈p.toList:=Array.mem_toList_iff.mpr (Array.getElem_mem _)
 exact zZ.mp (h.mem_iff.mp m)
theorem Pm.of{p q:Array Nat}(h:Pm N p)(e:q.Perm p):Pm N q:=(Array.perm_iff_toList_perm.mp e).trans h
theorem Pm.rev{p:Array Nat}(h:Pm N p)(i j:Nat):Pm N (kas_rev p i j):=h.of (mirror_perm _ _ _ _)
theorem dW{p:Array Nat}{i j:Nat}(hj:j<=p.size)(k:Nat):g (kas_rev p i j) k=if i<=k/\k < j then g p (i+j - 1 - k)else g p k:=by
 rw[dF];unfold kas_rev;rw[getElem?_mirror_all hj];split<;>rw[dF]
theorem yT{p:Array Nat}{src d:Nat}(hs:src < p.size)(hd:d<=src)(k:Nat):g (bubble p src d) k=if k=src - d then g p src else if src - d < k/\k<=src then g p (k - 1)else g p k:=by
 rw[dF,getElem?_bubble hs d hd];split
 . rw[dF]
 . split<;>rw[dF]
def Up(lt:Nat->Nat->Bool)(p:Array Nat)(n:Nat):Prop:=∀i j,i<=j->j < n->lt (g p j) (g p i)=false
def Dn(lt:Nat->Nat->Bool)(p:Array Nat)(n:Nat):Prop:=∀i j,i<=j->j < n->lt (g p i) (g p j)=false
theorem u6(O:Ord lt){p:Array Nat}{n:Nat}(h0:1<=n)(h:Up lt p n)(e:lt (g p n) (g p (n - 1))=false):Up lt p (n+1):=by
 intro i j a d;by_cases q:j < n
 . exact h i j a q
 . have b:j=n:=by omega
   subst b;by_cases c:i=j
   . subst c;exact O.refl _
   . exact O.tr _ _ _ (h i (j - 1) (by omega) (by omega)) e
theorem f9(O:Ord lt){p:Array Nat}{n:Nat}(h0:1<=n)(h:Dn lt p n)(e:lt (g p (n - 1)) (g p n)=false):Dn lt p (n+1):=by
 intro i j a d;by_cases q:j < n
 . exact h i j a q
 . have b:j=n:=by omega
   subst b;by_cases c:i=j
   . subst c;exact O.refl _
   . exact O.tr _ _ _ e (h i (j - 1) (by omega) (by omega))
theorem vS{p:Array Nat}{n:Nat}(hn:n<=p.size)(h:Dn lt p n):Up lt (kas_rev p 0 n) n:=by
 intro i j a b;rw[dW hn,dW hn,if_pos ⟨zr _,b⟩,if_pos ⟨zr _,by omega⟩]
 exact h _ _ (by omega) (by omega)
theorem pJ(O:Ord lt){p:Array Nat}(hp:Pm N p):∀(f n:Nat),1<=n->n+f<=N->Up lt p n->Tri lt N (fun m=>n<=m/\m<=n+f/\Up lt p m/\(m < n+f->lt (g p m) (g p (m - 1))=true)) (kas_asc p f n)
 |0,n,h1,h2,h=>⟨z4 _,z4 _,h,fun q=>absurd q (by omega)⟩
 |f+1,n,h1,h2,h=>by
  refine⟨Pm.bd hp (by omega),Pm.bd hp (by omega),?_⟩
  show Tri lt N _ (if lt (g p n) (g p (n - 1))=true then .ret n else kas_asc p f (n+1));by_cases e:lt (g p n) (g p (n - 1))=true
  . rw[if_pos e];exact⟨z4 _,by omega,h,fun _=>e⟩
  . rw[if_neg e];refine bv (fun m hm=>?_) (pJ O hp f (n+1) (by omega) (by omega) (u6 O h1 h (by simpa using e)))
    exact⟨by omega,by omega,hm.2.2.1,fun q=>hm.2.2.2 (by omega)⟩
def Eqv(lt:Nat->Nat->Bool)(p:Array Nat)(n q:Nat):Prop:=∀k,n - 1 - q<=k->k < n->lt (g p k) (g p (n - 1))=false/\lt (g p (n - 1)) (g p k)=false
theorem ky(O:Ord lt){p:Array Nat}{n q:Nat}(hn:n<=p.size)(hq:q+1<=n)(h:Dn lt p n)(he:Eqv lt p n q):Dn lt (kas_rev p (n - (q+1)) n) n:=by
 intro i j b a;rw[dW hn,dW hn];by_cases c:n - (q+1)<=i
 . rw[if_pos ⟨c,by omega⟩,if_pos ⟨by omega,a⟩]
   obtain⟨e,f⟩:=he (n - (q+1)+n - 1 - i) (by omega) (by omega)
   obtain⟨b1,b2⟩:=he (n - (q+1)+n - 1 - j) (by omega) (by omega)
   exact O.tr _ _ _ b2 e
 . rw[if_neg (by omega)]
   by_cases d:n - (q+1)<=j
   . rw[if_pos ⟨d,a⟩];exact h _ _ (by omega) (by omega)
   . rw[if_neg (by omega)]
     exact h _ _ b a
theorem j6(O:Ord lt):∀(f:Nat) (p:Array Nat) (n q:Nat),Pm N p->1<=n->n+f<=N->q+1<=n->Dn lt p n->Eqv lt p n q->
 Tri lt N (fun r=>Pm N r.1/\n<=r.2.1/\r.2.1<=n+f/\r.2.2+1<=r.2.1/\Dn lt r.1 r.2.1/\Eqv lt r.1 r.2.1 r.2.2) (kas_desc f p n q)
 |0,p,n,q,hp,h1,h2,hq,h,he=>⟨hp,z4 _,z4 _,hq,h,he⟩
 |f+1,p,n,q,hp,h1,h2,hq,h,he=>by
  have hs:=hp.size;refine⟨Pm.bd hp (by omega),Pm.bd hp (by omega),?_⟩
  show Tri lt N _ (if lt (g p n) (g p (n - 1))=true then(if q > 0 then kas_desc f (kas_rev p (n - (q+1)) n) (n+1) 0 else kas_desc f p (n+1) 0)else .ask (g p (n - 1)) (g p n) fun d=>if d=true then .ret (p,n,q)else kas_desc f p (n+1) (q+1))
  have one:∀c:Array Nat,Eqv lt c (n+1) 0:=fun c k k1 k2=>by
   have:k=n:=by omega
   subst this;exact⟨O.refl _,O.refl _⟩
  by_cases e:lt (g p n) (g p (n - 1))=true
  . rw[if_pos e];have e':=O.asym _ _ e;by_cases b:q > 0
    . rw[if_pos b];have d1:=ky O (by omega) hq h he
      have l:Dn lt (kas_rev p (n - (q+1)) n) (n+1):=by
       refine f9 O h1 d1 ?_;rw[dW (by omega),dW (by omega),if_pos ⟨by omega,by omega⟩,if_neg (by omega)]
       obtain⟨a,i⟩:=he (n - (q+1)+n - 1 - (n - 1)) (by omega) (by omega)
       exact O.tr _ _ _ e' a
      refine bv (fun r hr=>?_) (j6 O f _ (n+1) 0 (hp.rev _ _) (by omega) (by omega) (by omega) l (one _))
      exact⟨hr.1,by omega,by omega,hr.2.2.2⟩
    . rw[if_neg b];refine bv (fun r hr=>?_) (j6 O f p (n+1) 0 hp (by omega) (by omega) (by omega) (f9 O h1 h e') (one _))
      exact⟨hr.1,by omega,by omega,hr.2.2.2⟩
  . rw[if_neg e];have e1:lt (g p n) (g p (n - 1))=false:=by simpa using e
    refine⟨Pm.bd hp (by omega),Pm.bd hp (by omega),?_⟩
    show Tri lt N _ (if lt (g p (n - 1)) (g p n)=true then .ret (p,n,q)else kas_desc f p (n+1) (q+1));by_cases e2:lt (g p (n - 1)) (g p n)=true
    . rw[if_pos e2];exact⟨hp,z4 _,(by show n<=n+(f+1);omega),hq,h,he⟩
    . rw[if_neg e2];have j:lt (g p (n - 1)) (g p n)=false:=by simpa using e2
      refine bv (fun r hr=>?_) (j6 O f p (n+1) (q+1) hp (by omega) (by omega) (by omega) (f9 O h1 h j) fun k k1 k2=>?_)
      . exact⟨hr.1,by omega,by omega,hr.2.2.2⟩
      . show lt (g p k) (g p n)=false/\lt (g p n) (g p k)=false;by_cases m:k=n
        . subst m;exact⟨O.refl _,O.refl _⟩
        . obtain⟨a,i⟩:=he k (by omega) (by omega)
          exact⟨O.tr _ _ _ j a,O.tr _ _ _ i e1⟩
theorem pI(O:Ord lt){p:Array Nat}{n:Nat}(hp:Pm N p)(h1:1<=n)(hn:n<=N)(h:Dn lt p n):Tri lt N (fun r=>Pm N r.2/\1<=r.1/\r.1<=N/\Up lt r.2 r.1) (kas_tail3 n N p):=by
 unfold kas_tail3;refine cR (bv (fun m hm=>?_) (pJ O (hp.rev 0 n) (N - n) n h1 (by omega) (vS (by rw[hp.size];exact hn) h)))
 exact⟨hp.rev 0 n,by omega,by omega,hm.2.2.1⟩
theorem gB(O:Ord lt){p:Array Nat}{n:Nat}(hp:Pm N p)(hn:n+1<=N)(h:Dn lt p (n+1)):Tri lt N (fun r=>Pm N r.2/\1<=r.1/\r.1<=N/\Up lt r.2 r.1) (kas_descPart n N p):=by
 unfold kas_descPart;refine cR (bv (fun r hr=>?_) (j6 O (N - (n+1)) p (n+1) 0 hp (by omega) (by omega) (by omega) h fun k k1 k2=>?_))
 . obtain⟨a,f,e,c,b,d⟩:=hr;split
   . exact pI O (a.rev _ _) (by omega) (by omega) (ky O (by rw[a.size];omega) c b d)
   . exact pI O a (by omega) (by omega) b
 . have:k=n:=by omega
   subst this;exact⟨O.refl _,O.refl _⟩
theorem ug(O:Ord lt){p:Array Nat}(hp:Pm N p)(hN:1<=N):Tri lt N (fun r=>Pm N r.2/\1<=r.1/\r.1<=N/\Up lt r.2 r.1) (kas_count N p):=by
 unfold kas_count
 have d:Up lt p 1:=fun i j b c=>by
  have:i=0:=by omega
  have:j=0:=by omega
  subst_vars
  exact O.refl _
 refine cR (bv (fun n hn=>?_) (pJ O hp (N - 1) 1 (z4 _) (by omega) d))
 obtain⟨b1,b2,b3,b4⟩:=hn;by_cases e:(n==N)=true
 . rw[if_pos e];exact⟨hp,b1,by omega,b3⟩
 . rw[if_neg e];have e':n≠N:=by simpa using e
   have l1:=b4 (by omega)
   by_cases n1:n > 1
   . rw[if_pos n1];refine⟨Pm.bd hp (by omega),Pm.bd hp (by omega),?_⟩
     show Tri lt N _ (if lt (g p 0) (g p (n - 1))=true then .ret (n,p)else kas_descPart n N (kas_rev p 0 n));by_cases e2:lt (g p 0) (g p (n - 1))=true
     . rw[if_pos e2];exact⟨hp,b1,by omega,b3⟩
     . rw[if_neg e2];have f:lt (g p 0) (g p (n - 1))=false:=by simpa using e2
       have a:∀i j,i < n->j < n->lt (g p i) (g p j)=false:=fun i j hi c=>
        O.tr (g p j) (g p 0) (g p i) (O.tr _ _ _ (b3 j (n - 1) (by omega) (by omega)) f) (b3 0 i (zr _) hi)
       have hs:=hp.size;refine gB O (hp.rev 0 n) (by omega) (f9 O (by omega) (fun i j b c=>?_) ?_)
       . rw[dW (by omega),dW (by omega),if_pos ⟨zr _,by omega⟩,if_pos ⟨zr _,c⟩]
         exact a _ _ (by omega) (by omega)
       . rw[dW (by omega),dW (by omega),if_pos ⟨zr _,by omega⟩,if_neg (by omega)]
         exact O.tr _ _ _ (O.asym _ _ l1) (a _ _ (by omega) (by omega))
   . rw[if_neg n1];have en:n=1:=by omega
     subst en;refine gB O hp (by omega) (f9 O (z4 _) (fun i j b c=>?_) (O.asym _ _ l1))
     have:i=0:=by omega
     have:j=0:=by omega
     subst_vars
     exact O.refl _
theorem j5(O:Ord lt){p:Array Nat}{k:Nat}(hp:Pm N p)(hk:k < N)(h:Up lt p k):∀(f l r:Nat),l<=r->r<=k->r - l<=f->(∀i,i < l->lt (g p k) (g p i)=false)->(∀i,r<=i->i < k->lt (g p k) (g p i)=true)->
 Tri lt N (fun m=>m<=k/\(∀i,i < m->lt (g p k) (g p i)=false)/\∀i,m<=i->i < k->lt (g p k) (g p i)=true) (kas_place p k f l r)
 |0,l,r,h1,h2,h3,a,b=>by
  have:l=r:=by omega
  subst this;exact⟨h2,a,b⟩
 |f+1,l,r,h1,h2,h3,a,b=>by
  show Tri lt N _ (if l>=r then .ret l else .ask (p.getD k 0) (p.getD ((l+r) / 2) 0) fun c=>if c=true then kas_place p k f l ((l+r) / 2)else kas_place p k f ((l+r) / 2+1) r);by_cases e:l>=r
  . rw[if_pos e];have:l=r:=by omega
    subst this;exact⟨h2,a,b⟩
  . rw[if_neg e];refine⟨Pm.bd hp hk,Pm.bd hp (by omega),?_⟩
    show Tri lt N _ (if lt (g p k) (g p ((l+r) / 2))=true then kas_place p k f l ((l+r) / 2)else kas_place p k f ((l+r) / 2+1) r);by_cases c:lt (g p k) (g p ((l+r) / 2))=true
    . rw[if_pos c];refine j5 O hp hk h f l ((l+r) / 2) (by omega) (by omega) (by omega) a fun i i1 i2=>?_
      by_cases q:r<=i
      . exact b i q i2
      . exact O.up c (h _ _ i1 i2)
    . rw[if_neg c];have d:lt (g p k) (g p ((l+r) / 2))=false:=by simpa using c
      refine j5 O hp hk h f ((l+r) / 2+1) r (by omega) h2 (by omega) (fun i i1=>?_) b
      exact O.tr _ _ _ (h i ((l+r) / 2) (by omega) (by omega)) d
theorem vt(O:Ord lt):∀(f:Nat) (p:Array Nat) (k:Nat),Pm N p->k+f<=N->Up lt p k->Tri lt N (fun q=>Pm N q/\Up lt q (k+f)) (kas_bin f p k)
 |0,p,k,hp,_,h=>⟨hp,h⟩
 |f+1,p,k,hp,hk,h=>by
  have hs:=hp.size;show Tri lt N _ ((kas_place p k k 0 k).bind fun l=>kas_bin f (bubble p k (k - l)) (k+1));refine cR (bv (fun l hl=>?_) (j5 O hp (by omega) h k 0 k (zr _) (z4 _) (by omega) (fun i hi=>absurd hi (by omega)) fun i h1 h2=>absurd h1 (by omega)))
  obtain⟨l1,l2,m⟩:=hl;have e:k - (k - l)=l:=by omega
  have hb:∀i,g (bubble p k (k - l)) i=if i=l then g p k else if l < i/\i<=k then g p (i - 1)else g p i:=fun i=>by
   rw[yT (by omega) (by omega),e]
  have u:Up lt (bubble p k (k - l)) (k+1):=by
   intro i j b n;rw[hb,hb];by_cases c:j=l
   . rw[if_pos c];by_cases a:i=l
     . rw[if_pos a];exact O.refl _
     . rw[if_neg a,if_neg (by omega)]
       exact l2 i (by omega)
   . rw[if_neg c];by_cases d:l < j/\j<=k
     . rw[if_pos d];by_cases a:i=l
       . rw[if_pos a];exact O.asym _ _ (m (j - 1) (by omega) (by omega))
       . rw[if_neg a];by_cases i2:l < i/\i<=k
         . rw[if_pos i2];exact h _ _ (by omega) (by omega)
         . rw[if_neg i2];exact h _ _ (by omega) (by omega)
     . rw[if_neg d,if_neg (by omega),if_neg (by omega)]
       exact h _ _ b (by omega)
  refine bv (fun q hq=>?_) (vt O f _ (k+1) (hp.of (bubble_perm _ _ _)) (by omega) u)
  rw[show k+(f+1)=k+1+f by omega]
  exact hq
theorem vW(O:Ord lt)(hN:1<=N):Tri lt N (fun p=>Pm N p/\Up lt p N) (kas_sort N):=by
 unfold kas_sort
 have h0:Pm N (List.toArray (List.range N)):=by
  unfold Pm;simp
 refine cR (bv (fun r hr=>?_) (ug O h0 hN));obtain⟨b,f,d,a⟩:=hr;by_cases e:r.1 < N
 . rw[if_pos e];have c:max r.1 1=r.1:=by omega
   rw[c];have:=vt O (N - r.1) r.2 r.1 b (by omega) a
   rw[show r.1+(N - r.1)=N by omega]at this
   exact this
 . rw[if_neg e];have:r.1=N:=by omega
   rw[this]at a;exact⟨b,a⟩
end Srt
namespace L2
open PySem
section
variable{M:Model}{prog:Program}{w:World}{A:Around}{E:Value->Shared->Prop}{h:Heap}{g:Array GenState}{d:Drawn}{t:Nat}{os:OsState}
variable{nm q:Str}{C N:Addr}{bs bm bmB:List Value}{hdct:Bool}{sn:List Str}{sub:List Value}{ab:Bool}{col:Option Bool}{dd:Option Addr}{k0 k1 k2 k3 k5:Option Value}{B newId initId:String}
end
end L2
namespace L2
section
open PySem
variable{prog:Program}{w:World}{A:Around}{E:Value->Shared->Prop}{h:Heap}{g:Array GenState}{d:Drawn}{t:Nat}{os:OsState}
variable{nm q:Str}{C N:Addr}{bs bm bmB:List Value}{hdct:Bool}{sn:List Str}{sub:List Value}{ab:Bool}{col:Option Bool}{dd:Option Addr}{k0 k1 k2 k3 k5:Option Value}{B newId nid initId:String}
end
open PySem PySem.Spec PyProof.Rows
section
variable{X:Cx}{CX:CXT}{k:Nat}{f C:Addr}{fd:FuncData}{ps:List Str}{sp:Sp}{E:XK}{x:Str}{p pos apos:Pos}{e:Expr}{es:List Expr}{t:TA}
end
open PySem PySem.Spec PyProof.Rows
section
variable{X:Cx}{C fI:Addr}{E:XK}{pos:Pos}{ce:Expr}{te:TE}
end
end L2
namespace L2
section
open PySem PySem.W Builtin Builtin.ObjectAttr Builtin.Getset_descriptor
variable{prog:Program}{w:World}{A:Around}{E:Value->Shared->Prop}{h:Heap}{g:Array GenState}{d:Drawn}{t:Nat}{os:OsState}{a C:Addr}{o:Obj}{K:Frag}
structure XIs (K:Frag) (C:Addr):Prop where
 cls:(clsIn K C).isSome=true
 ga:findIn K (.ref C) "__getattribute__"=some (some (.builtin "BaseException.__getattribute__"))
 hook:findIn K (.ref C) "__getattr__"=some none
 cl:findIn K (.ref C) "__class__"=some (some (.builtin "object.__class__"))
 mo:mroIn K C (.type "object")=some true
 mb:mroIn K C (.type "BaseException")=some true
theorem fF{M:Model}{n:Str}{r:Option Value}{Q:Option Value->Shared->Prop}(X:K.In h)(e:findIn K (.ref C) n=some r)(z:Q r ⟨h,g,d,t,os⟩):wpAny M A (typeLookup (.ref C) n) Q E ⟨h,g,d,t,os⟩:=
 (looks_findIn (M:=M) X e).at z
theorem sw{M:Model}{b:Value}{r:Bool}{Q:Bool->Shared->Prop}(X:K.In h)(e:mroIn K C b=some r)(z:Q r ⟨h,g,d,t,os⟩):wpAny M A (isSubtype (.ref C) b) Q E ⟨h,g,d,t,os⟩:=
 (looks_mroIn (M:=M) X e).at z
theorem iy{R:Result->Shared->Prop}{tp:Value}(Z:XIs K C)(X:K.In h)(hx:h.get? a=some o)(hc:o.cls= .ref C)(z:R (.ok (.ret (.ref C))) ⟨h,g,d,t,os⟩):
 codeAny (model prog w) A (.call (.builtin "getset_descriptor.__get__") ⟨[.builtin "object.__class__", .ref a,tp],[]⟩) R ⟨h,g,d,t,os⟩:=by
 have b:Looks (model prog w) h (typeOf (.ref a)) (.ref C):=by
  have:=((Looks.ld (M:=model prog w) (part:=some headPart) hx).andThen (f:=fun o=>pure o.cls) .now);rw[hc]at this;exact this
 have c:=looks_mroIn (M:=model prog w) X Z.mo;refine codeAny_call_builtin KF.slot_gs.plain KF.entry_gs (KF.slot_gs.check _ _ _ _ _ _ _ _ KF.type_class (KF.args_gs _ _ _) ?_);unfold Builtin.«getset_descriptor.__get__» descrGet;rw[dga_obj];refine wpAny_bind (wpAny_pure ?_);unfold descrGetter descrCheckInstance descrNameAndClass isInstance;simp only[KF.owner_class]
 repeat lk
 refine⟨Code.quiet_builtin _ (by decide +kernel),codeAny_builtin KF.entry_class ?_⟩
 unfold Builtin.«object.__class__» shownTypeOf
 repeat lk
 exact z
theorem xf{M:Model}{nv:Value}{Q:Unit->Shared->Prop}(Z:XIs K C)(X:K.In h)(hx:h.get? a=some o)(hc:o.cls= .ref C)(z:Q () ⟨h,g,d,t,os⟩):
 wpAny M A (checkBuiltinCall "BaseException.__getattribute__" ⟨[.ref a,nv],[]⟩) Q E ⟨h,g,d,t,os⟩:=by
 have hk:builtinKind "BaseException.__getattribute__"=some .slot:=by decide +kernel
 have hs:splitId "BaseException.__getattribute__"=some ("BaseException","__getattribute__"):=by decide +kernel
 have ha:=PySem.F.args_bexc_ga (.ref a) nv;simp only[checkBuiltinCall,hk,hs];refine wpAny_bind ?_;unfold isInstance
 repeat
  first
  |(with_reducible refine wpAny_loadPart_at hx ?_;rw[hc])
  |with_reducible refine sw X Z.mb ?_
  |wp_step
 exact z
theorem oU{Q:Option Value->Shared->Prop}(Z:XIs K C)(X:K.In h)(hx:h.get? a=some o)(hc:o.cls= .ref C)(z:Q (some (.ref C)) ⟨h,g,d,t+1,os⟩):
 wpAny (model prog w) A (getAttr? (.ref a) "__class__") Q E ⟨h,g,d,t,os⟩:=by
 have c:=PySem.F.excAttr_ValueError.ga.bind (.ref a);have b2:(Value.builtin "BaseException.__getattribute__"==Value.builtin "object.__getattribute__")=false:=by decide +kernel
 have b1:(onTheHeap (Value.ref C)&&Value.builtin "BaseException.__getattribute__"==Value.builtin "object.__getattribute__")=false:=by rw[b2];rfl
 have f:=PySem.F.typeOf_object_class;have i:=PySem.F.slot_gs_get.lookup;have e:=PySem.F.slot_gs_set.lookup;have b:(⟨h,g,d,t+1,os⟩:Shared).TypeIs (.builtin "object.__class__") "getset_descriptor":=PySem.F.typeOf_object_class;unfold getAttr? getAttrBy?;refine wpAny_bind (wpAny_mkText (wpAny_bind (wpAny_attempt ?_)));unfold getAttrBy
 repeat
  any_goals
   first
   |assumption
   |(with_reducible refine wpAny_loadPart_at hx ?_;rw[hc])
   |with_reducible refine fF X Z.ga ?_
   |with_reducible refine fF X Z.hook ?_
   |wp_step
 refine codeAny_call_builtin PySem.F.excAttr_ValueError.ga.plain PySem.F.entry_bexc_ga (xf Z X hx hc ?_)
 repeat
  any_goals
   first
   |assumption
   |(with_reducible refine wpAny_loadPart_at hx ?_;rw[hc])
   |with_reducible refine fF X Z.cl ?_
   |wp_step
 refine iy Z X hx hc ?_
 repeat
  any_goals
   first
   |assumption
   |wp_step
end
end L2
namespace L2
open PySem PySem.Spec PyProof.Rows
noncomputable def Cau(C a:Addr):HO:= .ext fun h=>∃o,h.get? a=some o/\o.cls= .ref C
theorem sM{K:PySem.W.Frag}{C a:Addr}(Z:XIs K C):PySem.W.KitX K (.ref a) (.ref C) (fun h=>∃o,h.get? a=some o/\o.cls= .ref C) where
 ty:=fun M h _ ⟨o,e,c⟩=>by
  have:=((PySem.W.Looks.ld (M:=M) (part:=some headPart) e).andThen (f:=fun o=>pure o.cls) .now);rw[c]at this;exact this
 it:=fun M h X _=>by
  have hc:=Z.cls;unfold PySem.W.clsIn at hc;split at hc
  . rename_i ho;intro l j i s' k q;unfold isType loadHead;exact wpAny_bind (wpAny_loadPart (k _ _ (X _ _ ho)) (wpAny_pure q))
  . cases hc
 ne:=fun h tp dd its n sl X b=>by
  have hc:=Z.cls;refine Bool.eq_false_iff.mpr fun q=>?_;have e:C=tp:=Value.ref.inj (beq_iff_eq.mp q);subst e;unfold PySem.W.clsIn at hc;split at hc
  . rename_i ho;cases (X _ _ ho).symm.trans b
  . cases hc
 ca:=fun{prog w A E Q s} X ⟨o,e,c⟩ k=>by
  obtain⟨h,g,d,t,os⟩:=s;exact oU Z X e c k
noncomputable def clsV:V->Value
 | .ty n=> .type n
 | .ref a=> .ref a
 |_=> .none
def km:V->Bool
 | .ty _=>true
 | .ref _=>true
 |_=>false
theorem jG{x:V}{u:Value}(r:RelV x u)(h:km x=true):u=clsV x:=by
 cases x with
 |ty n=>exact r
 |ref a=>exact r
 |_=>cases h
theorem kG:∀ {xs:List V} {us:List Value},Vals xs us->xs.all km=true->us=xs.map clsV
 |_,_, .nil,_=>rfl
 |_,_, .cons r t,h=>by
  rw[List.all_cons,Az]at h;rw[jG r h.1,kG t h.2,zj]
inductive TyX (K:PySem.W.Frag) (H:Hp):V->Value->Prop where
 |of {x:V} {t:Value} (h:TyOf K H x t):TyX K H x t
 |exc {a C:Addr} (e:H a=some (Cau C a)) (Z:XIs K C):TyX K H (.ref a) (.ref C)
section
variable{X:Cx}
theorem TyX.kit{pins:List (Addr×Obj)}{σ:St}{H:Hp}{s:Shared}{x:V}{u t:Value}(I:Inv X pins σ H s)(rx:RelV x u)(ty:TyX X.K H x t):∃Hh,PySem.W.KitX X.K u t Hh/\Hh s.heap/\u≠ .builtin "__main__.__loader__#opaque":=by
 cases ty with
 |of ty=>
  cases ty with
  |non=>cases (show u=Value.none from rx);exact⟨_,PySem.W.kitx_none,True.intro,fun z=>nomatch z⟩
  |bl y=>cases (show u=Value.bool y from rx);exact⟨_,PySem.W.kitx_bool,True.intro,fun z=>nomatch z⟩
  |int i=>obtain⟨t,q⟩:=(show∃t,u=Value.int i t from rx);cases q;exact⟨_,PySem.W.kitx_int,True.intro,fun z=>nomatch z⟩
  |str y=>obtain⟨t,q⟩:=(show∃t,u=Value.str y t from rx);cases q;exact⟨_,PySem.W.kitx_str,True.intro,fun z=>nomatch z⟩
  |flt y=>obtain⟨t,q⟩:=(show∃t,u=Value.float y t from rx);cases q;exact⟨_,PySem.W.kitx_float,True.intro,fun z=>nomatch z⟩
  | @lst a xs b=>
   cases (show u=Value.ref a from rx);obtain⟨_,_,n,_,h1⟩:=(show ObjOk X.prog X.w H s.heap a (.lst xs)from I.hok a _ b);exact⟨_,PySem.W.kitx_list,⟨_,h1,rfl⟩,fun z=>nomatch z⟩
  | @frz a ob xs b=>
   cases (show u=Value.ref a from rx);obtain⟨_,_,_,n,_,h1⟩:=(show ObjOk X.prog X.w H s.heap a (.frz ob (.lst xs))from I.hok a _ b);exact⟨_,PySem.W.kitx_list,⟨_,h1,rfl⟩,fun z=>nomatch z⟩
  | @tup a xs b=>
   cases (show u=Value.ref a from rx);obtain⟨_,_,_,o,h1,h2,_⟩:=(show ObjOk X.prog X.w H s.heap a (.tup xs)from I.hok a _ b);exact⟨_,PySem.W.kitx_tuple,⟨o,h1,h2⟩,fun z=>nomatch z⟩
  | @dK a kvs b=>
   cases (show u=Value.ref a from rx);obtain⟨_,_,vs,_,o,es,ep,h1,h2,_⟩:=(show ObjOk X.prog X.w H s.heap a (.dK kvs)from I.hok a _ b);exact⟨_,PySem.W.kitx_dict,⟨o,h1,h2.1⟩,fun z=>nomatch z⟩
  | @dT a kvs b=>
   cases (show u=Value.ref a from rx);obtain⟨_,_,xs,_,o,es,ep,h1,h2,_⟩:=(show ObjOk X.prog X.w H s.heap a (.dT kvs)from I.hok a _ b);exact⟨_,PySem.W.kitx_dict,⟨o,h1,h2.1⟩,fun z=>nomatch z⟩
  | @ins a C dx fs b cl ha hn htk hm=>
   cases (show u=Value.ref a from rx);obtain⟨mA,O,_⟩:=jw I.hok b;obtain⟨c,J,_⟩:=O.look;exact⟨_,PySem.W.kitx_own (cl.get _) cl.hd ha hn htk hm,J,fun z=>nomatch z⟩
 | @exc a C e Z=>
  cases (show u=Value.ref a from rx);obtain⟨h1,_⟩:=(show ObjOk X.prog X.w H s.heap a (Cau C a)from I.hok a _ e);exact⟨_,sM Z,h1,fun z=>nomatch z⟩
def rIsi(K:PySem.W.Frag):List V->Hp->VK->Prop:=fun xs H Q=>∃x c t b,xs= [x,c]/\TyX K H x t/\
 ((km c=true/\PySem.W.kitOne K t (clsV c)=some b)\/(∃p ys,c= .ref p/\H p=some (.tup ys)/\ys.all km=true/\PySem.W.kitAny K t (ys.map clsV)=some b))/\Q (.bl b) H
theorem cW:bV X (.builtin "isinstance") (rIsi X.K):=by
 intro pins s σ H xs us Q I r h;obtain⟨x,c,t,b,e,ty,h,q⟩:=h;subst e
 cases r with
 | @cons _ u _ _ i r=>
  cases r with
  | @cons _ v _ _ d r=>
   cases r;obtain⟨m,Z,hp,hne⟩:=ty.kit I i;rcases h with⟨hc,hk⟩|⟨p,ys,e,g,a,hk⟩
   . cases jG d hc;exact PySem.W.kia_one Z I.kIn hp hk hne fun tk=>⟨.bl b,H,I.tok tk,rfl,q⟩
   . subst e;cases (show v=Value.ref p from d);obtain⟨_,its,rv,⟨k,l,j,f⟩,h1,h2,n,h3⟩:=(show ObjOk X.prog X.w H s.heap p (.tup ys)from I.hok p _ g);dsimp only at h2 h3;subst h2 h3;cases kG rv a;exact PySem.W.kia_tup Z I.kIn hp h1 hk hne fun tk=>⟨.bl b,H,I.tok tk,rfl,q⟩
end
open PySem PySem.Spec PyProof.Rows
abbrev TSX:=Ends->XK->St->Hp->Prop
section
variable{X:Cx}{CX:CXT}{k:Nat}{f:Addr}{fd:FuncData}{ps:List Str}{sp:Sp}{x:Str}{p pos epos:Pos}{e:Expr}{es:List Expr}{t:TA}
end
section
variable{X:Cx}{pins:List (Addr×Obj)}{σ:St}{H:Hp}{s:Shared}{a:Addr}
end
section
variable{X:Cx}{body suite:List Stmt}{b0:Stmt}{tb:TSX}{ts:TS}{i:Nat}{n cx:Str}{np hpos pos:Pos}{W:Addr}
end
open PySem PySem.Spec PyProof.Rows
section
variable{X:Cx}
def Big(i:Int):Prop:=i.natAbs < 2^8000
theorem aR:OpR X (binaryOp .Mult) (rI (fun i j=>Big i/\Big j) fun i j=> .int (i*j)):=opI fun _ _ _ _ _ _ _ hc q=>
 PyProof.Rows.mul_int q (IntMulOk.of_le (m:=8000) (n:=8000) (intBits_le_iff.mpr hc.1) (intBits_le_iff.mpr hc.2) (by decide))
theorem tJ{i j:Int}(h:Big j):Builtin.divisionGoesByPylong i j=false:=by
 refine PyProof.noPylong_of_log2 ?_;by_cases z:j.natAbs=0
 . rw[z];decide
 . exact Nat.lt_trans ((Nat.log2_lt z).mpr h) (by decide)
theorem cE:OpR X (binaryOp .FloorDiv) (rI (fun _ j=>0 < j/\Big j) fun i j=> .int (i / j)):=opI fun i j _ _ _ _ _ hc q=>by
 have h1:(0:Int) < j:=hc.1;exact floordiv_int (by omega) (by rw[Ae i (by omega)];exact q) (.inl (tJ hc.2))
theorem jY:OpR X (binaryOp .FloorDiv) (rI (fun _ j=>j≠0/\Big j) fun i j=> .int (i.fdiv j)):=opI fun _ _ _ _ _ _ _ hc q=>floordiv_int hc.1 q (.inl (tJ hc.2))
end
theorem aU:bootBuiltins "isinstance"=some (.builtin "isinstance"):=by decide +kernel
theorem ik:bootBuiltins "abs"=some (.builtin "abs"):=by decide +kernel
open PySem PySem.Spec PyProof.Rows
section
variable{X:Cx}
end
section
variable{X:Cx}{CX:CXT}{k:Nat}{f:Addr}{fd:FuncData}{ps:List Str}{sp:Sp}{x:Str}{p pos rpos:Pos}{e:Expr}{es:List Expr}{t:TA}
end
section
variable{X:Cx}{body suite:List Stmt}{b0:Stmt}{tb:TSX}{ts:TS}{cx:Str}{np hpos pos:Pos}{W:Addr}
end
end L2
namespace Tre
open PySem PySem.Spec PyProof.Rows L2
inductive Tr where
 |non
 |bl (b:Bool)
 |int (i:Int)
 |str (x:Str)
 |tup (ts:List Tr)
 |ls
mutual
noncomputable def Tr.depth:Tr->Nat
 | .tup ts=>Trs.depth ts+1
 |_=>0
noncomputable def Trs.depth:List Tr->Nat
 | []=>0
 |t::ts=>max (Tr.depth t) (Trs.depth ts)
end
mutual
def Tr.pure:Tr->Prop
 | .tup ts=>Trs.pure ts
 | .ls=>False
 |_=>True
def Trs.pure:List Tr->Prop
 | []=>True
 |t::ts=>Tr.pure t/\Trs.pure ts
end
mutual
def TrAt(H:Hp):V->Tr->Prop
 |v, .non=>v= .non
 |v, .bl b=>v= .bl b
 |v, .int i=>v= .int i
 |v, .str x=>v= .str x
 |v, .tup ts=>∃r vs,v= .ref r/\H r=some (.tup vs)/\TrsAt H vs ts
 |v, .ls=>∃r xs,v= .ref r/\H r=some (.lst xs)
def TrsAt(H:Hp):List V->List Tr->Prop
 |vs,[]=>vs= []
 |vs,t::ts=>∃v r,vs=v::r/\TrAt H v t/\TrsAt H r ts
end
structure Kd (H H':Hp):Prop where
 tup:∀a xs,H a=some (.tup xs)->H' a=some (.tup xs)
 lst:∀a xs,H a=some (.lst xs)->∃ys,H' a=some (.lst ys)
theorem Kd.trans{H H1 H2:Hp}(a:Kd H H1)(b:Kd H1 H2):Kd H H2:=⟨fun x o e=>b.tup x o (a.tup x o e),fun x o e=>by
 obtain⟨ys,e1⟩:=a.lst x o e
 exact b.lst x ys e1⟩
theorem Kd.of_same{H H':Hp}(s:Same H H'):Kd H H':=⟨fun a xs e=>s a _ e,fun a xs e=>⟨xs,s a _ e⟩⟩
theorem Kd.upd{H:Hp}{p:Addr}{xs ys:List V}(h:H p=some (.lst xs)):Kd H (upd H p (.lst ys)):=by
 refine⟨fun a zs e=>?_,fun a zs e=>?_⟩
 . rw[ag]
   . exact e
   . intro z;rw[z,h]at e;cases e
 . by_cases z:a=p
   . subst z;exact⟨ys,a8⟩
   . exact⟨zs,(ag z).trans e⟩
mutual
theorem TrAt.mono{H H':Hp}(k:Kd H H'):∀ {v:V} {t:Tr},TrAt H v t->TrAt H' v t
 |v, .non,h=>by unfold TrAt at h ⊢;exact h
 |v, .bl b,h=>by unfold TrAt at h ⊢;exact h
 |v, .int i,h=>by unfold TrAt at h ⊢;exact h
 |v, .str x,h=>by unfold TrAt at h ⊢;exact h
 |v, .ls,h=>by
  unfold TrAt at h ⊢;obtain⟨r,xs,e,h⟩:=h;obtain⟨ys,h'⟩:=k.lst r xs h;exact⟨r,ys,e,h'⟩
 |v, .tup ts,h=>by
  unfold TrAt at h ⊢;obtain⟨r,vs,e,h1,h2⟩:=h;exact⟨r,vs,e,k.tup _ _ h1,TrsAt.mono k h2⟩
theorem TrsAt.mono{H H':Hp}(k:Kd H H'):∀ {vs:List V} {ts:List Tr},TrsAt H vs ts->TrsAt H' vs ts
 |vs,[],h=>by unfold TrsAt at h ⊢;exact h
 |vs,t::ts,h=>by
  unfold TrsAt at h ⊢;obtain⟨v,r,e,h1,h2⟩:=h;exact⟨v,r,e,TrAt.mono k h1,TrsAt.mono k h2⟩
end
theorem TrsAt.nil{H:Hp}:TrsAt H [] []:=by unfold TrsAt;rfl
theorem TrsAt.cons{H:Hp}{v:V}{t:Tr}{vs:List V}{ts:List Tr}(h:TrAt H v t)(r:TrsAt H vs ts):TrsAt H (v::vs) (t::ts):=by
 unfold TrsAt;exact⟨v,vs,rfl,h,r⟩
theorem TrsAt.inv{H:Hp}{t:Tr}{vs:List V}{ts:List Tr}(h:TrsAt H vs (t::ts)):∃v r,vs=v::r/\TrAt H v t/\TrsAt H r ts:=by
 unfold TrsAt at h;exact h
theorem TrsAt.len{H:Hp}:∀ {vs:List V} {ts:List Tr},TrsAt H vs ts->vs.length=ts.length
 |vs,[],h=>by
  unfold TrsAt at h;rw[h];rfl
 |vs,t::ts,h=>by
  obtain⟨v,r,e,_,h2⟩:=h.inv;rw[e,zq,zq,h2.len]
theorem TrsAt.app{H:Hp}{ws:List V}{us:List Tr}(b:TrsAt H ws us):∀ {vs:List V} {ts:List Tr},TrsAt H vs ts->TrsAt H (vs++ws) (ts++us)
 |vs,[],h=>by
  unfold TrsAt at h;subst h;exact b
 |vs,t::ts,h=>by
  obtain⟨v,r,e,h1,h2⟩:=h.inv;subst e;exact .cons h1 (TrsAt.app b h2)
theorem TrsAt.get{H:Hp}:∀ {vs:List V} {ts:List Tr} {i:Nat} {t:Tr},TrsAt H vs ts->ts[i]?=some t->∃v,vs[i]?=some v/\TrAt H v t
 |vs,[],i,t,_,e=>by simp at e
 |vs,a::ts,0,t,h,e=>by
  obtain⟨v,r,rfl,h1,h2⟩:=h.inv;simp at e;subst e;exact⟨v,rfl,h1⟩
 |vs,a::ts,i+1,t,h,e=>by
  obtain⟨v,r,rfl,h1,h2⟩:=h.inv;obtain⟨u,e1,e2⟩:=h2.get (i:=i) (by simpa using e)
  exact⟨u,by simpa using e1,e2⟩
theorem TrsAt.get'{H:Hp}{vs:List V}{ts:List Tr}{i:Nat}{v:V}(h:TrsAt H vs ts)(e:vs[i]?=some v):∃t,ts[i]?=some t/\TrAt H v t:=by
 have hl:=h.len;have hi:i < vs.length:=(zb.mp e).1;obtain⟨u,e1,e2⟩:=h.get (i:=i) (t:=ts[i]'(by omega)) (yZ _)
 rw[e]at e1;cases e1;exact⟨_,yZ _,e2⟩
mutual
theorem TrAt.det{H:Hp}:∀ {v:V} {t u:Tr},TrAt H v t->TrAt H v u->t=u
 |v, .non,u,h1,h2=>by
  unfold TrAt at h1;subst h1;cases u<;>unfold TrAt at h2<;>first|rfl|(cases h2;done)|(obtain⟨_,_,e,_⟩:=h2;cases e)
 |v, .bl b,u,h1,h2=>by
  unfold TrAt at h1;subst h1;cases u<;>unfold TrAt at h2<;>first|(cases h2;rfl)|(cases h2;done)|(obtain⟨_,_,e,_⟩:=h2;cases e)
 |v, .int b,u,h1,h2=>by
  unfold TrAt at h1;subst h1;cases u<;>unfold TrAt at h2<;>first|(cases h2;rfl)|(cases h2;done)|(obtain⟨_,_,e,_⟩:=h2;cases e)
 |v, .str b,u,h1,h2=>by
  unfold TrAt at h1;subst h1;cases u<;>unfold TrAt at h2<;>first|(cases h2;rfl)|(cases h2;done)|(obtain⟨_,_,e,_⟩:=h2;cases e)
 |v, .ls,u,h1,h2=>by
  unfold TrAt at h1;obtain⟨r,xs,rfl,h1⟩:=h1;cases u<;>unfold TrAt at h2<;>first|rfl|(cases h2;done)|(obtain⟨_,_,e,h2,_⟩:=h2;cases e;rw[h1]at h2;cases h2)
 |v, .tup ts, .tup us,h1,h2=>by
  unfold TrAt at h1 h2;obtain⟨r,vs,rfl,h1,h3⟩:=h1;obtain⟨r',c,e,h2,a⟩:=h2;cases e;rw[h1]at h2;cases h2;rw[TrsAt.det h3 a]
 |v, .tup ts, .non,h1,h2=>by unfold TrAt at h1 h2;obtain⟨_,_,e,_⟩:=h1;rw[h2]at e;cases e
 |v, .tup ts, .bl _,h1,h2=>by unfold TrAt at h1 h2;obtain⟨_,_,e,_⟩:=h1;rw[h2]at e;cases e
 |v, .tup ts, .int _,h1,h2=>by unfold TrAt at h1 h2;obtain⟨_,_,e,_⟩:=h1;rw[h2]at e;cases e
 |v, .tup ts, .str _,h1,h2=>by unfold TrAt at h1 h2;obtain⟨_,_,e,_⟩:=h1;rw[h2]at e;cases e
 |v, .tup ts, .ls,h1,h2=>by
  unfold TrAt at h1 h2;obtain⟨r,vs,rfl,h1,_⟩:=h1;obtain⟨r',xs,e,h2⟩:=h2;cases e;rw[h1]at h2;cases h2
theorem TrsAt.det{H:Hp}:∀ {vs:List V} {ts us:List Tr},TrsAt H vs ts->TrsAt H vs us->ts=us
 |vs,[],[],_,_=>rfl
 |vs,[],u::us,h1,h2=>by
  have a:=h1.len;have b:=h2.len;rw[a]at b;simp at b
 |vs,t::ts,[],h1,h2=>by
  have a:=h1.len;have b:=h2.len;rw[a]at b;simp at b
 |vs,t::ts,u::us,h1,h2=>by
  obtain⟨v,r,rfl,h3,c⟩:=h1.inv;obtain⟨g,r',e,d,f⟩:=h2.inv;cases e;rw[TrAt.det h3 d,TrsAt.det c f]
end
mutual
noncomputable def eqT:Tr->Tr->Bool
 | .non, .non=>true
 | .bl a, .bl b=>a==b
 | .bl a, .int i=>(if a then 1 else 0)==i
 | .int i, .bl b=>i==(if b then 1 else 0)
 | .int i, .int j=>i==j
 | .str x, .str y=>x==y
 | .tup ts, .tup us=>eqTs ts us
 | .ls, .ls=>true
 |_,_=>false
noncomputable def eqTs:List Tr->List Tr->Bool
 | [],[]=>true
 |t::ts,u::us=>eqT t u&&eqTs ts us
 |_,_=>false
end
mutual
theorem i6:∀t:Tr,eqT t t=true
 | .non=>by simp[eqT]
 | .bl _=>by simp[eqT]
 | .int _=>by simp[eqT]
 | .str _=>by simp[eqT]
 | .ls=>by simp[eqT]
 | .tup ts=>by simp only[eqT];exact eqTs_refl ts
theorem eqTs_refl:∀ts:List Tr,eqTs ts ts=true
 | []=>by simp[eqTs]
 |t::ts=>by simp[eqTs,i6 t,eqTs_refl ts]
end
noncomputable def eqJ(ts us:List Tr)(j:Nat):Bool:=match ts[j]?,us[j]? with
 |some t,some u=>eqT t u
 |_,_=>true
theorem t9{ts us:List Tr}{j:Nat}{t u:Tr}(h1:ts[j]?=some t)(h2:us[j]?=some u):eqJ ts us j=eqT t u:=by
 unfold eqJ;rw[h1,h2]
theorem dG:∀(ts us:List Tr),eqTs ts us=((List.range (min ts.length us.length)).all (eqJ ts us)&&ts.length==us.length)
 | [],[]=>by simp[eqTs]
 | [],u::us=>by simp[eqTs]
 |t::ts,[]=>by simp[eqTs]
 |t::ts,u::us=>by
  simp only[eqTs,zq];rw[dG ts us,show min (ts.length+1) (us.length+1)=min ts.length us.length+1 by omega,List.range_succ_eq_map,List.all_cons,List.all_map]
  have e:(eqJ (t::ts) (u::us)) ∘ Nat.succ=eqJ ts us:=by
   funext j;simp[eqJ]
  rw[e];simp[eqJ,Bool.and_assoc]
open PySem PySem.Spec PyProof.Rows L2
section
variable{X:Cx}{pins:List (Addr×Obj)}{σ:L2.St}{H:Hp}{s:Shared}{A:Around}
theorem oj{a b:Addr}{xs ys:List V}(I:Inv X pins σ H s)(ha:H a=some (.tup xs))(hb:H b=some (.tup ys))(hu:A.units < cLine)(e:Nat->Bool)(hne:a≠b)(he:∀j x y u v,xs[j]?=some x->ys[j]?=some y->RelV x u->RelV y v->SeqAt.EqAt A.in1 s u v (e j)):
 SeqAt.EqAt A s (.ref a) (.ref b) ((List.range (min xs.length ys.length)).all e&&xs.length==ys.length):=by
 obtain⟨us,r1,h,_⟩:=I.tuple (SqT.of ha);obtain⟨ws,r2,p2,_⟩:=I.tuple (SqT.of hb);have l1:=r1.length;have l2:=r2.length
 have:=SeqAt.RcAt.tuples (A:=A) (e:=e) (show s.heap.IsTuple a us.toArray from h) (show s.heap.IsTuple b ws.toArray from p2) hu fun j h1 h2=>by
  have d:j < us.length:=by simpa using h1
  have c:j < ws.length:=by simpa using h2
  obtain⟨u,e1,f⟩:=r1.get (i:=j) (x:=xs[j]'(by omega)) (yZ _)
  obtain⟨v,e2,l⟩:=r2.get (i:=j) (x:=ys[j]'(by omega)) (yZ _)
  have g:us.toArray[j]=u:=by rw[List.getElem_toArray];rw[yZ d]at e1;exact ze e1
  have k:ws.toArray[j]=v:=by rw[List.getElem_toArray];rw[yZ c]at e2;exact ze e2
  rw[g,k];exact he j _ _ u v (yZ _) (yZ _) f l
 rw[z9,z9,<-l1,<-l2]at this;exact SeqAt.EqAt.of_refs hne this
theorem bA:∀ {ts:List Tr} {t:Tr},t∈ts->t.depth<=Trs.depth ts
 |a::ts,t,h=>by
  unfold Trs.depth;rcases zc.mp h with rfl|h
  . omega
  . have:=bA h;omega
theorem du:∀ {ts:List Tr} {t:Tr},Trs.pure ts->t∈ts->t.pure
 |a::ts,t,p,h=>by
  unfold Trs.pure at p;rcases zc.mp h with rfl|h
  . exact p.1
  . exact du p.2 h
theorem cS{r:Addr}{vs:List V}(I:Inv X pins σ H s)(h:H r=some (.tup vs)):∃its:Array Value,s.heap.IsTuple r its:=by
 obtain⟨us,_,p,_⟩:=I.tuple (SqT.of h);exact⟨_,p⟩
theorem cU{r:Addr}{vs:List V}(I:Inv X pins σ H s)(h:H r=some (.lst vs)):∃its:Array Value,s.heap.IsList r its:=by
 obtain⟨us,_,p,_⟩:=I.list (SqL.of h);exact⟨_,p.isList⟩
theorem mJ(I:Inv X pins σ H s){A:Around}{t u:Tr}{v w:V}{a b:Value}(hd:∀ts,t≠ .tup ts)(hp:t.pure\/u.pure)(h1:TrAt H v t)(h2:TrAt H w u)(r1:RelV v a)(r2:RelV w b)(hu0:A.units < cLine):SeqAt.EqAt A s a b (eqT t u):=by
 cases t with
 |tup ts=>exact(hd ts rfl).elim
 |non=>
  unfold TrAt at h1;subst h1;cases (show a=Value.none from r1)
  cases u with
  |non=>unfold TrAt at h2;subst h2;cases (show b=Value.none from r2);simp only[eqT];exact SeqAt.EqAt.same _
  |bl c=>unfold TrAt at h2;subst h2;cases (show b=Value.bool c from r2);simp only[eqT];exact SeqAt.EqAt.none_bool c
  |int c=>unfold TrAt at h2;subst h2;obtain⟨t',rfl⟩:=r2;simp only[eqT];exact SeqAt.EqAt.none_int c t'
  |str c=>unfold TrAt at h2;subst h2;obtain⟨t',rfl⟩:=r2;simp only[eqT];exact SeqAt.EqAt.none_str c t'
  |tup us=>unfold TrAt at h2;obtain⟨r,vs,rfl,e,_⟩:=h2;cases r2;obtain⟨its,p⟩:=cS I e;simp only[eqT];exact SeqAt.EqAt.none_tuple p hu0
  |ls=>unfold TrAt at h2;obtain⟨r,vs,rfl,e⟩:=h2;cases r2;obtain⟨its,p⟩:=cU I e;simp only[eqT];exact SeqAt.EqAt.none_list p hu0
 |bl d=>
  unfold TrAt at h1;subst h1;cases (show a=Value.bool d from r1)
  cases u with
  |non=>unfold TrAt at h2;subst h2;cases (show b=Value.none from r2);simp only[eqT];exact SeqAt.EqAt.bool_none d
  |bl c=>unfold TrAt at h2;subst h2;cases (show b=Value.bool c from r2);simp only[eqT];exact SeqAt.EqAt.bool_bool d c
  |int c=>unfold TrAt at h2;subst h2;obtain⟨t',rfl⟩:=r2;simp only[eqT];exact SeqAt.EqAt.bool_int d c t'
  |str c=>unfold TrAt at h2;subst h2;obtain⟨t',rfl⟩:=r2;simp only[eqT];exact SeqAt.EqAt.bool_str d c t'
  |tup us=>unfold TrAt at h2;obtain⟨r,vs,rfl,e,_⟩:=h2;cases r2;obtain⟨its,p⟩:=cS I e;simp only[eqT];exact SeqAt.EqAt.bool_tuple d p hu0
  |ls=>unfold TrAt at h2;obtain⟨r,vs,rfl,e⟩:=h2;cases r2;obtain⟨its,p⟩:=cU I e;simp only[eqT];exact SeqAt.EqAt.bool_list d p hu0
 |int d=>
  unfold TrAt at h1;subst h1;obtain⟨f,rfl⟩:=r1
  cases u with
  |non=>unfold TrAt at h2;subst h2;cases (show b=Value.none from r2);simp only[eqT];exact SeqAt.EqAt.int_none d f
  |bl c=>unfold TrAt at h2;subst h2;cases (show b=Value.bool c from r2);simp only[eqT];exact SeqAt.EqAt.int_bool d f c
  |int c=>unfold TrAt at h2;subst h2;obtain⟨t',rfl⟩:=r2;simp only[eqT];exact SeqAt.EqAt.int_int d f c t'
  |str c=>unfold TrAt at h2;subst h2;obtain⟨t',rfl⟩:=r2;simp only[eqT];exact SeqAt.EqAt.int_str d f c t'
  |tup us=>unfold TrAt at h2;obtain⟨r,vs,rfl,e,_⟩:=h2;cases r2;obtain⟨its,p⟩:=cS I e;simp only[eqT];exact SeqAt.EqAt.int_tuple d f p hu0
  |ls=>unfold TrAt at h2;obtain⟨r,vs,rfl,e⟩:=h2;cases r2;obtain⟨its,p⟩:=cU I e;simp only[eqT];exact SeqAt.EqAt.int_list d f p hu0
 |str d=>
  unfold TrAt at h1;subst h1;obtain⟨f,rfl⟩:=r1
  cases u with
  |non=>unfold TrAt at h2;subst h2;cases (show b=Value.none from r2);simp only[eqT];exact SeqAt.EqAt.str_none d f
  |bl c=>unfold TrAt at h2;subst h2;cases (show b=Value.bool c from r2);simp only[eqT];exact SeqAt.EqAt.str_bool d f c
  |int c=>unfold TrAt at h2;subst h2;obtain⟨t',rfl⟩:=r2;simp only[eqT];exact SeqAt.EqAt.str_int d f c t'
  |str c=>unfold TrAt at h2;subst h2;obtain⟨t',rfl⟩:=r2;simp only[eqT];exact SeqAt.EqAt.str_str d f c t'
  |tup us=>unfold TrAt at h2;obtain⟨r,vs,rfl,e,_⟩:=h2;cases r2;obtain⟨its,p⟩:=cS I e;simp only[eqT];exact SeqAt.EqAt.str_tuple d f p hu0
  |ls=>unfold TrAt at h2;obtain⟨r,vs,rfl,e⟩:=h2;cases r2;obtain⟨its,p⟩:=cU I e;simp only[eqT];exact SeqAt.EqAt.str_list d f p hu0
 |ls=>
  unfold TrAt at h1;obtain⟨k,i,rfl,j⟩:=h1;cases r1;obtain⟨h,g⟩:=cU I j
  cases u with
  |non=>unfold TrAt at h2;subst h2;cases (show b=Value.none from r2);simp only[eqT];exact SeqAt.EqAt.list_none g hu0
  |bl c=>unfold TrAt at h2;subst h2;cases (show b=Value.bool c from r2);simp only[eqT];exact SeqAt.EqAt.list_bool c g hu0
  |int c=>unfold TrAt at h2;subst h2;obtain⟨t',rfl⟩:=r2;simp only[eqT];exact SeqAt.EqAt.list_int c t' g hu0
  |str c=>unfold TrAt at h2;subst h2;obtain⟨t',rfl⟩:=r2;simp only[eqT];exact SeqAt.EqAt.list_str c t' g hu0
  |tup us=>unfold TrAt at h2;obtain⟨r,vs,rfl,e,_⟩:=h2;cases r2;obtain⟨its,p⟩:=cS I e;simp only[eqT];exact SeqAt.EqAt.list_tuple g p hu0
  |ls=>rcases hp with hp|hp<;>simp[Tr.pure]at hp
theorem j3(I:Inv X pins σ H s):∀(n:Nat) {A:Around} {t u:Tr} {v w:V} {a b:Value},t.depth<=n->(t.pure\/u.pure)->TrAt H v t->TrAt H w u->RelV v a->RelV w b->A.units+n+1 < cLine->SeqAt.EqAt A s a b (eqT t u):=by
 intro n
 induction n with
 |zero=>
  intro A t u v w a b hd hp h1 h2 r1 r2 hu;refine mJ I (fun ts e=>?_) hp h1 h2 r1 r2 (by omega)
  subst e;simp[Tr.depth]at hd
 |succ n q=>
  intro A t u v w a b hd hp h1 h2 r1 r2 hu;have d:A.units < cLine:=by omega
  cases t with
  |tup ts=>
   have i:=h1;have g:=h2;unfold TrAt at h1;obtain⟨o,ac,rfl,l,k0⟩:=h1;cases r1;obtain⟨k,f⟩:=cS I l;unfold Tr.depth at hd
   cases u with
   |non=>unfold TrAt at h2;subst h2;cases (show b=Value.none from r2);simp only[eqT];exact SeqAt.EqAt.tuple_none f d
   |bl c=>unfold TrAt at h2;subst h2;cases (show b=Value.bool c from r2);simp only[eqT];exact SeqAt.EqAt.tuple_bool c f d
   |int c=>unfold TrAt at h2;subst h2;obtain⟨t',rfl⟩:=r2;simp only[eqT];exact SeqAt.EqAt.tuple_int c t' f d
   |str c=>unfold TrAt at h2;subst h2;obtain⟨t',rfl⟩:=r2;simp only[eqT];exact SeqAt.EqAt.tuple_str c t' f d
   |ls=>unfold TrAt at h2;obtain⟨r,vs,rfl,h⟩:=h2;cases r2;obtain⟨its,p⟩:=cU I h;simp only[eqT];exact SeqAt.EqAt.tuple_list f p d
   |tup us=>
    unfold TrAt at h2;obtain⟨r,vs,rfl,h,k1⟩:=h2;cases r2;by_cases z:o=r
    . subst z;rw[<-TrAt.det i g,i6];exact SeqAt.EqAt.same _
    . have:=oj I l h d (eqJ ts us) z fun j x y u' v' m1 m2 m q2=>by
       obtain⟨t1,n1,a1⟩:=k0.get' m1;obtain⟨t2,n2,a2⟩:=k1.get' m2;rw[t9 n1 n2];refine q (A:=A.in1) (by have:=bA (za n1);omega) ?_ a1 a2 m q2 (by show A.units+1+n+1 < cLine;omega)
       rcases hp with hp|hp
       . unfold Tr.pure at hp;exact .inl (du hp (za n1))
       . unfold Tr.pure at hp;exact .inr (du hp (za n2))
      rw[k0.len,k1.len,<-dG]at this;simp only[eqT];exact this
  |_=>exact mJ I (fun ts e=>by cases e) hp h1 h2 r1 r2 d
end
open PySem PySem.Spec PyProof.Rows L2
open PySem.AutoSeq1 (wpAny_loadPart')
def LtAt(A:Around)(s:Shared)(y x:Value)(b:Bool):Prop:=
 ∀(prog:Program) (w:World) (E:Value->Shared->Prop) (Q:Value->Shared->Prop),Q (.bool b) s->wpAny (model prog w) A (richCompare .Lt y x) Q E s
def bD(A:Around)(s:Shared):List Value->List Value->List (Bool×Bool)->Prop
 |v::vs,w::ws,(e,l)::q=>SeqAt.EqAt A s v w e/\(e=false->LtAt A s v w l)/\(e=true->bD A s vs ws q)
 | [],_,q=>q= []
 |_,[],q=>q= []
 |_,_,_=>False
noncomputable def lexV(fin:Bool):List (Bool×Bool)->Bool
 | []=>fin
 |(e,l)::q=>if e=true then lexV fin q else l
theorem j0(l b:Addr)(items items2:Array Value)(n n2:Nat)(dd dd2:Option Addr)(sl sl2:Array (Option Value))(q:List (Bool×Bool)):
 Meets (Builtin.«tuple.__lt__» ⟨[.ref l, .ref b],[]⟩)
  (fun A R s=>s.heap.get? l=some {cls:= .type "tuple",dict:=dd,data:= .seq items n,slots:=sl}/\s.heap.get? b=some {cls:= .type "tuple",dict:=dd2,data:= .seq items2 n2,slots:=sl2}/\
   bD A.in1 s items.toList items2.toList q/\R (.ok (.ret (.bool (lexV (decide (items.size < items2.size)) q)))) s):=
 .of_wp fun prog w A R s h=>by
  refine hZq fun q_ e_=>?_;obtain⟨hp,g,d,tk,os⟩:=s;obtain⟨hl,hb,hx,h⟩:=h;subst e_;have m:=AutoSeq1.sub_tuple_tuple
  wp_walk using wpAny_loadPart' hl,wpAny_loadPart' hb,wpAny_forIn_list _ (fun rest b s'=>b.1=none/\s'=⟨hp,g,d,tk,os⟩/\∃(vs ws:List Value) (c:List (Bool×Bool)),rest=vs.zip ws/\
   bD A.in1 ⟨hp,g,d,tk,os⟩ vs ws c/\R (.ok (.ret (.bool (lexV (decide (items.size < items2.size)) c)))) ⟨hp,g,d,tk,os⟩) _
  case turn=>
   rintro⟨y,x⟩ rest b s' ⟨f,rfl,vs,ws,c,hz,a,i⟩
   match vs,ws,c,hz,a,i with
   | [],_,_,hz,_,_=>rw[List.zip_nil_left]at hz;cases hz
   |_::_,[],_,hz,_,_=>rw[List.zip_nil_right]at hz;cases hz
   |v::vs,w'::ws,[],_,a,_=>exact a.elim
   |v::vs,w'::ws,(e,lo)::c,hz,a,i=>
    rw[Al]at hz;injection hz with hyx hrest;injection hyx with hy hx';subst hy hx';obtain⟨he,j,a⟩:=a;refine wpAny_bind (he prog w _ _ ?_)
    cases e with
    |true=>
     wp_walk
     exact⟨rfl,rfl,_,_,_,hrest,a rfl,i⟩
    |false=>
     have k:=j rfl prog w
     wp_walk using k
     exact⟨_,rfl,i⟩
  case fin=>
   rintro⟨b1,b2⟩ s' ⟨f,rfl,vs,ws,c,hz,a,i⟩;simp only at f;subst f
   have hq:c= []:=by
    match vs,ws,c,hz,a with
    | [],_,_,_,a=>unfold bD at a;exact a
    |_::_,[],_,_,a=>unfold bD at a;exact a
    |_::_,_::_,_,hz,_=>rw[Al]at hz;cases hz
   subst hq
   wp_walk
   exact⟨_,rfl,by simpa [Builtin.Tuple.tupleCompareSizes,lexV]using i⟩
  case h=>
   exact⟨rfl,rfl,items.toList,items2.toList,q,rfl,hx,h⟩
theorem kS{A:Around}{s:Shared}{l b:Addr}{items items2:Array Value}{q:List (Bool×Bool)}(hl:s.heap.IsTuple l items)(hb:s.heap.IsTuple b items2)(hu:A.units < cLine)(hx:bD A.in1 s items.toList items2.toList q):LtAt A s (.ref l) (.ref b) (lexV (decide (items.size < items2.size)) q):=by
 intro prog w E Q h;obtain⟨⟨cls,dd,data,sl⟩,ho,hc,n,hd⟩:=id hl;obtain⟨⟨i,g,f,e⟩,a,d,n2,c⟩:=id hb;simp only at hc hd d c;subst hc hd d c
 exact richCompare_meets_room (op:= .Lt) ⟨_,ho,rfl⟩ ⟨_,a,rfl⟩ PySem.F.slot_tuple_lt PySem.F.entry_tuple_lt (PySem.F.args_tuple_lt_2 _ _) (j0 l b items items2 n n2 dd g sl e q)
  ⟨ho,a,hx,show Value.bool (lexV (decide (items.size < items2.size)) q)≠Value.notImplemented/\Q (.bool (lexV (decide (items.size < items2.size)) q)) s from⟨(fun x=>nomatch x),h⟩⟩ hu
end Tre
namespace Tre
open PySem L2
inductive Co where
 |non
 |num (i:Int)
 |str (l:List Nat)
 |tup (cs:List Co)
 |ls
noncomputable def Co.kind:Co->Nat
 | .non=>0
 | .num _=>1
 | .str _=>2
 | .tup _=>3
 | .ls=>4
mutual
noncomputable def code:Tr->Co
 | .non=> .non
 | .bl b=> .num (if b then 1 else 0)
 | .int i=> .num i
 | .str x=> .str x.cps.toList
 | .tup ts=> .tup (codes ts)
 | .ls=> .ls
noncomputable def codes:List Tr->List Co
 | []=> []
 |t::ts=>code t::codes ts
end
theorem j8(x y:Str):((x==y)=true)↔x.cps.toList=y.cps.toList:=by
 rw[beq_iff_eq];constructor
 . rintro rfl;rfl
 . intro h;cases x;cases y;simp only[Str.mk.injEq];exact Array.toList_inj.mp h
mutual
theorem dL:∀(t u:Tr),(eqT t u=true)↔code t=code u
 | .non,u=>by cases u<;>simp[eqT,code]
 | .bl a,u=>by cases u<;>simp[eqT,code];cases a<;>rename_i b<;>cases b<;>simp
 | .int i,u=>by cases u<;>simp[eqT,code]
 | .str x, .str y=>by simp only[eqT,code,Co.str.injEq];exact j8 x y
 | .str x, .non=>by simp[eqT,code]
 | .str x, .bl _=>by simp[eqT,code]
 | .str x, .int _=>by simp[eqT,code]
 | .str x, .tup _=>by simp[eqT,code]
 | .str x, .ls=>by simp[eqT,code]
 | .ls,u=>by cases u<;>simp[eqT,code]
 | .tup ts, .tup us=>by simp only[eqT,code,Co.tup.injEq];exact eqTs_code ts us
 | .tup ts, .non=>by simp[eqT,code]
 | .tup ts, .bl _=>by simp[eqT,code]
 | .tup ts, .int _=>by simp[eqT,code]
 | .tup ts, .str _=>by simp[eqT,code]
 | .tup ts, .ls=>by simp[eqT,code]
theorem eqTs_code:∀(ts us:List Tr),(eqTs ts us=true)↔codes ts=codes us
 | [],[]=>by simp[eqTs,codes]
 | [],u::us=>by simp[eqTs,codes]
 |t::ts,[]=>by simp[eqTs,codes]
 |t::ts,u::us=>by
  simp only[eqTs,codes,Az,Au];rw[dL t u,eqTs_code ts us]
end
mutual
def LtC:Co->Co->Prop
 | .num i, .num j=>i < j
 | .str l, .str m=>l < m
 | .tup cs, .tup ds=>LtCs cs ds
 |c,d=>c.kind < d.kind
def LtCs:List Co->List Co->Prop
 | [],[]=>False
 | [],_::_=>True
 |_::_,[]=>False
 |c::cs,d::ds=>LtC c d\/(c=d/\LtCs cs ds)
end
theorem ke{c d:Co}(h:LtC c d):c.kind<=d.kind:=by
 cases c<;>cases d<;>simp[LtC,Co.kind]at h ⊢
theorem kc{c d:Co}(h:c.kind < d.kind):LtC c d:=by
 cases c<;>cases d<;>simp[LtC,Co.kind]at h ⊢
mutual
theorem jm:∀c:Co,¬LtC c c
 | .non=>by simp[LtC,Co.kind]
 | .num _=>by simp[LtC]
 | .str l=>by simp only[LtC];exact List.lt_irrefl l
 | .tup cs=>by simp only[LtC];exact ltCs_irr cs
 | .ls=>by simp[LtC,Co.kind]
theorem ltCs_irr:∀cs:List Co,¬LtCs cs cs
 | []=>by simp[LtCs]
 |c::cs=>by
  simp only[LtCs,not_or];exact⟨jm c,fun h=>ltCs_irr cs h.2⟩
end
mutual
theorem jk:∀c d:Co,LtC c d\/c=d\/LtC d c
 | .num i, .num j=>by simp only[LtC,Co.num.injEq];omega
 | .str l, .str m=>by
  simp only[LtC,Co.str.injEq];by_cases h1:l < m
  . exact .inl h1
  . by_cases h2:m < l
    . exact .inr (.inr h2)
    . exact .inr (.inl (List.le_antisymm (List.not_lt.mp h2) (List.not_lt.mp h1)))
 | .tup cs, .tup ds=>by simp only[LtC,Co.tup.injEq];exact ltCs_tri cs ds
 | .non,d=>by cases d<;>simp[LtC,Co.kind]
 | .ls,d=>by cases d<;>simp[LtC,Co.kind]
 | .num i, .non=>by simp[LtC,Co.kind]
 | .num i, .str _=>by simp[LtC,Co.kind]
 | .num i, .tup _=>by simp[LtC,Co.kind]
 | .num i, .ls=>by simp[LtC,Co.kind]
 | .str i, .non=>by simp[LtC,Co.kind]
 | .str i, .num _=>by simp[LtC,Co.kind]
 | .str i, .tup _=>by simp[LtC,Co.kind]
 | .str i, .ls=>by simp[LtC,Co.kind]
 | .tup i, .non=>by simp[LtC,Co.kind]
 | .tup i, .num _=>by simp[LtC,Co.kind]
 | .tup i, .str _=>by simp[LtC,Co.kind]
 | .tup i, .ls=>by simp[LtC,Co.kind]
theorem ltCs_tri:∀cs ds:List Co,LtCs cs ds\/cs=ds\/LtCs ds cs
 | [],[]=>by simp
 | [],d::ds=>by simp[LtCs]
 |c::cs,[]=>by simp[LtCs]
 |c::cs,d::ds=>by
  simp only[LtCs,Au];rcases jk c d with h|h|h
  . exact .inl (.inl h)
  . rcases ltCs_tri cs ds with g|g|g
    . exact .inl (.inr ⟨h,g⟩)
    . exact .inr (.inl ⟨h,g⟩)
    . exact .inr (.inr (.inr ⟨h.symm,g⟩))
  . exact .inr (.inr (.inl h))
end
theorem aB{a b c:Co}(h1:LtC a b)(h2:LtC b c)(hk:a.kind < b.kind\/b.kind < c.kind):LtC a c:=by
 have k1:=ke h1;have k2:=ke h2;exact kc (by omega)
mutual
theorem fE:∀ {a b c:Co},LtC a b->LtC b c->LtC a c
 | .num i, .num j, .num k,h1,h2=>by simp only[LtC]at *;omega
 | .str i, .str j, .str k,h1,h2=>by simp only[LtC]at *;exact List.lt_trans h1 h2
 | .tup i, .tup j, .tup k,h1,h2=>by simp only[LtC]at *;exact ltCs_trans h1 h2
 | .num _, .num _, .str _,h1,h2=>aB h1 h2 (by simp[LtC,Co.kind]at h1 h2 ⊢)
 | .num _, .num _, .tup _,h1,h2=>aB h1 h2 (by simp[LtC,Co.kind]at h1 h2 ⊢)
 | .num _, .num _, .non,h1,h2=>aB h1 h2 (by simp[LtC,Co.kind]at h1 h2 ⊢)
 | .num _, .num _, .ls,h1,h2=>aB h1 h2 (by simp[LtC,Co.kind]at h1 h2 ⊢)
 | .num _, .str _,_,h1,h2=>aB h1 h2 (by simp[LtC,Co.kind]at h1 h2 ⊢)
 | .num _, .tup _,_,h1,h2=>aB h1 h2 (by simp[LtC,Co.kind]at h1 h2 ⊢)
 | .num _, .non,_,h1,h2=>aB h1 h2 (by simp[LtC,Co.kind]at h1 h2 ⊢)
 | .num _, .ls,_,h1,h2=>aB h1 h2 (by simp[LtC,Co.kind]at h1 h2 ⊢)
 | .str _, .str _, .num _,h1,h2=>aB h1 h2 (by simp[LtC,Co.kind]at h1 h2 ⊢)
 | .str _, .str _, .tup _,h1,h2=>aB h1 h2 (by simp[LtC,Co.kind]at h1 h2 ⊢)
 | .str _, .str _, .non,h1,h2=>aB h1 h2 (by simp[LtC,Co.kind]at h1 h2 ⊢)
 | .str _, .str _, .ls,h1,h2=>aB h1 h2 (by simp[LtC,Co.kind]at h1 h2 ⊢)
 | .str _, .num _,_,h1,h2=>aB h1 h2 (by simp[LtC,Co.kind]at h1 h2 ⊢)
 | .str _, .tup _,_,h1,h2=>aB h1 h2 (by simp[LtC,Co.kind]at h1 h2 ⊢)
 | .str _, .non,_,h1,h2=>aB h1 h2 (by simp[LtC,Co.kind]at h1 h2 ⊢)
 | .str _, .ls,_,h1,h2=>aB h1 h2 (by simp[LtC,Co.kind]at h1 h2 ⊢)
 | .tup _, .tup _, .num _,h1,h2=>aB h1 h2 (by simp[LtC,Co.kind]at h1 h2 ⊢)
 | .tup _, .tup _, .str _,h1,h2=>aB h1 h2 (by simp[LtC,Co.kind]at h1 h2 ⊢)
 | .tup _, .tup _, .non,h1,h2=>aB h1 h2 (by simp[LtC,Co.kind]at h1 h2 ⊢)
 | .tup _, .tup _, .ls,h1,h2=>aB h1 h2 (by simp[LtC,Co.kind]at h1 h2 ⊢)
 | .tup _, .num _,_,h1,h2=>aB h1 h2 (by simp[LtC,Co.kind]at h1 h2 ⊢)
 | .tup _, .str _,_,h1,h2=>aB h1 h2 (by simp[LtC,Co.kind]at h1 h2 ⊢)
 | .tup _, .non,_,h1,h2=>aB h1 h2 (by simp[LtC,Co.kind]at h1 h2 ⊢)
 | .tup _, .ls,_,h1,h2=>aB h1 h2 (by simp[LtC,Co.kind]at h1 h2 ⊢)
 | .non,b,_,h1,h2=>aB h1 h2 (by cases b<;>simp[LtC,Co.kind]at h1 h2 ⊢)
 | .ls,b,_,h1,h2=>aB h1 h2 (by cases b<;>simp[LtC,Co.kind]at h1 h2 ⊢)
theorem ltCs_trans:∀ {a b c:List Co},LtCs a b->LtCs b c->LtCs a c
 | [],[],_,h1,_=>by simp[LtCs]at h1
 | [],_::_,[],_,h2=>by simp[LtCs]at h2
 | [],_::_,_::_,_,_=>by simp[LtCs]
 |_::_,[],_,h1,_=>by simp[LtCs]at h1
 |_::_,_::_,[],_,h2=>by simp[LtCs]at h2
 |x::a,y::b,z::c,h1,h2=>by
  simp only[LtCs]at*;rcases h1 with h1|⟨e1,h1⟩
  . rcases h2 with h2|⟨e2,h2⟩
    . exact .inl (fE h1 h2)
    . exact .inl (e2▸h1)
  . rcases h2 with h2|⟨e2,h2⟩
    . exact .inl (e1▸h2)
    . exact .inr ⟨e1.trans e2,ltCs_trans h1 h2⟩
end
open Classical in
noncomputable def ltT(t u:Tr):Bool:=decide (LtC (code t) (code u))
open Classical in
theorem ltT_iff{t u:Tr}:(ltT t u=true)↔LtC (code t) (code u):=by
 unfold ltT;exact decide_eq_true_iff
theorem ka{t u:Tr}(h:ltT t u=true):ltT u t=false:=by
 cases e:ltT u t with
 |false=>rfl
 |true=>exact absurd (fE (ltT_iff.mp h) (ltT_iff.mp e)) (jm _)
theorem xh{a b c:Tr}(h1:ltT b a=false)(h2:ltT c b=false):ltT c a=false:=by
 cases e:ltT c a with
 |false=>rfl
 |true=>
  have n1:¬LtC (code b) (code a):=fun z=>by rw[ltT_iff.mpr z]at h1;cases h1
  have n2:¬LtC (code c) (code b):=fun z=>by rw[ltT_iff.mpr z]at h2;cases h2
  have l:=ltT_iff.mp e;rcases jk (code a) (code b)with q|q|q
  . exact absurd (fE l q) n2
  . rw[q]at l;exact absurd l n2
  . exact absurd q n1
theorem xi{a b:Tr}(h1:ltT a b=false)(h2:ltT b a=false):eqT a b=true:=by
 rw[dL];rcases jk (code a) (code b)with q|q|q
 . rw[ltT_iff.mpr q]at h1;cases h1
 . exact q
 . rw[ltT_iff.mpr q]at h2;cases h2
open PySem PySem.Spec PyProof.Rows L2
mutual
def Cm:Tr->Tr->Prop
 | .bl _, .bl _=>True
 | .int _, .int _=>True
 | .str _, .str _=>True
 | .tup ts, .tup us=>Cms ts us
 |_,_=>False
def Cms:List Tr->List Tr->Prop
 |t::ts,u::us=>(eqT t u=true/\Cms ts us)\/(eqT t u=false/\Cm t u)
 | [],_=>True
 |_::_,[]=>True
end
noncomputable def qs:List Tr->List Tr->List (Bool×Bool)
 |t::ts,u::us=>(eqT t u,ltT t u)::qs ts us
 | [],_=> []
 |_::_,[]=> []
theorem dS:∀(ts us:List Tr),(lexV (decide (ts.length < us.length)) (qs ts us)=true)↔LtCs (codes ts) (codes us)
 | [],[]=>by simp[qs,lexV,codes,LtCs]
 | [],u::us=>by simp[qs,lexV,codes,LtCs]
 |t::ts,[]=>by simp[qs,lexV,codes,LtCs]
 |t::ts,u::us=>by
  have a:=dS ts us;have e:decide ((t::ts).length < (u::us).length)=decide (ts.length < us.length):=by simp
  rw[e];simp only[qs,lexV,codes,LtCs];by_cases h:eqT t u=true
  . rw[if_pos h,a];have hc:=(dL t u).mp h;rw[hc];constructor
    . intro z;exact .inr ⟨rfl,z⟩
    . rintro(z|⟨_,z⟩)
      . exact absurd z (jm _)
      . exact z
  . rw[if_neg h];have hc:¬code t=code u:=fun z=>h ((dL t u).mpr z);constructor
    . intro z;exact .inl (ltT_iff.mp z)
    . rintro(z|⟨z,_⟩)
      . exact ltT_iff.mpr z
      . exact absurd z hc
theorem aX{a b:Bool}(h:(a=true)↔(b=true)):a=b:=AN.mpr h
section
variable{X:Cx}{pins:List (Addr×Obj)}{σ:L2.St}{H:Hp}{s:Shared}
theorem fH(I:Inv X pins σ H s){n:Nat}{A:Around}(hu:A.units+n+1 < cLine)(ih:∀ {t u:Tr} {v w:V} {a b:Value},t.depth<=n->(t.pure\/u.pure)->Cm t u->TrAt H v t->TrAt H w u->RelV v a->RelV w b->LtAt A s a b (ltT t u)):
 ∀ {ts us:List Tr} {vs ws:List V} {as bs:List Value},Trs.depth ts<=n->(Trs.pure ts\/Trs.pure us)->Cms ts us->TrsAt H vs ts->TrsAt H ws us->Vals vs as->Vals ws bs->bD A s as bs (qs ts us)
 | [],us,vs,ws,as,bs,hd,hp,hc,h1,h2,r1,r2=>by
  unfold TrsAt at h1;subst h1;cases r1;cases us<;>simp[bD,qs]
 |t::ts,[],vs,ws,as,bs,hd,hp,hc,h1,h2,r1,r2=>by
  unfold TrsAt at h2;subst h2;cases r2;obtain⟨v,r,rfl,_,_⟩:=h1.inv;cases r1;simp[bD,qs]
 |t::ts,u::us,vs,ws,as,bs,hd,hp,hc,h1,h2,r1,r2=>by
  obtain⟨v,r,rfl,i,g2⟩:=h1.inv;obtain⟨m,r',rfl,g,k⟩:=h2.inv;unfold Trs.depth at hd
  have c:t.pure\/u.pure:=by
   rcases hp with hp|hp<;>unfold Trs.pure at hp
   . exact .inl hp.1
   . exact .inr hp.1
  have d:Trs.pure ts\/Trs.pure us:=by
   rcases hp with hp|hp<;>unfold Trs.pure at hp
   . exact .inl hp.2
   . exact .inr hp.2
  cases r1 with
  |cons f l=>
   cases r2 with
   |cons h j=>
    simp only[bD,qs];refine⟨j3 I n (by omega) c i g f h hu,fun e=>?_,fun e=>?_⟩
    . unfold Cms at hc;rcases hc with⟨e',_⟩|⟨_,hc⟩
      . rw[e]at e';cases e'
      . exact ih (by omega) c hc i g f h
    . unfold Cms at hc;rcases hc with⟨_,hc⟩|⟨e',_⟩
      . exact fH I hu ih (by omega) d hc g2 k l j
      . rw[e]at e';cases e'
theorem mI{A:Around}{t u:Tr}{v w:V}{a b:Value}(hd:∀ts,t≠ .tup ts)(hc:Cm t u)(h1:TrAt H v t)(h2:TrAt H w u)(r1:RelV v a)(r2:RelV w b):LtAt A s a b (ltT t u):=by
 cases t<;>cases u<;>unfold Cm at hc<;>first|exact hc.elim|skip
 . rename_i x y;unfold TrAt at h1 h2;subst h1 h2;cases (show a=Value.bool x from r1);cases (show b=Value.bool y from r2);intro prog w' E Q h;refine lt_bool ?_
   have e:decide (b2i x < b2i y)=ltT (.bl x) (.bl y):=by
    refine aX ?_;rw[ltT_iff,decide_eq_true_iff];cases x<;>cases y<;>simp[code,LtC,b2i]
   rw[e];exact h
 . rename_i x y;unfold TrAt at h1 h2;subst h1 h2;obtain⟨c,rfl⟩:=r1;obtain⟨t2,rfl⟩:=r2;intro prog w' E Q h;refine lt_int ?_
   have e:decide (x < y)=ltT (.int x) (.int y):=by
    refine aX ?_;rw[ltT_iff,decide_eq_true_iff];simp[code,LtC]
   rw[e];exact h
 . rename_i x y;unfold TrAt at h1 h2;subst h1 h2;obtain⟨c,rfl⟩:=r1;obtain⟨t2,rfl⟩:=r2;intro prog w' E Q h;refine lt_str ?_
   have e:decide (x.cps.toList < y.cps.toList)=ltT (.str x) (.str y):=by
    refine aX ?_;rw[ltT_iff,decide_eq_true_iff];simp[code,LtC]
   rw[e];exact h
 . exact(hd _ rfl).elim
theorem fZ(I:Inv X pins σ H s):∀(n:Nat) {A:Around} {t u:Tr} {v w:V} {a b:Value},t.depth<=n->(t.pure\/u.pure)->Cm t u->TrAt H v t->TrAt H w u->RelV v a->RelV w b->A.units+n+1 < cLine->LtAt A s a b (ltT t u):=by
 intro n
 induction n with
 |zero=>
  intro A t u v w a b hd hp hc h1 h2 r1 r2 hu;refine mI (fun ts e=>?_) hc h1 h2 r1 r2;subst e;simp[Tr.depth]at hd
 |succ n l=>
  intro A t u v w a b hd hp hc h1 h2 r1 r2 hu
  cases t with
  |tup ts=>
   cases u<;>first|(unfold Cm at hc;exact hc.elim)|skip
   rename_i us;unfold Cm at hc;unfold TrAt at h1 h2;obtain⟨k,q,rfl,z,k0⟩:=h1;obtain⟨r,vs,rfl,g1,k1⟩:=h2;cases r1;cases r2;obtain⟨as,g,j,_⟩:=I.tuple (SqT.of z);obtain⟨bs,h,p,_⟩:=I.tuple (SqT.of g1);unfold Tr.depth at hd
   have f:Trs.pure ts\/Trs.pure us:=by
    rcases hp with hp|hp<;>unfold Tr.pure at hp
    . exact .inl hp
    . exact .inr hp
   have c:A.in1.units+n+1 < cLine:=by show A.units+1+n+1 < cLine;omega
   have hx:=fH (A:=A.in1) I c (fun d i cc m y b1 b2=>l d i cc m y b1 b2 c) (by omega) f hc k0 k1 g h
   have:=kS (A:=A) (show s.heap.IsTuple k as.toArray from j) (show s.heap.IsTuple r bs.toArray from p) (by omega) (by simpa using hx)
   have e:lexV (decide (as.toArray.size < bs.toArray.size)) (qs ts us)=ltT (.tup ts) (.tup us):=by
    have x:=k0.len;have l1:=k1.len;have l2:=g.length;have o:=h.length
    have e2:decide (as.toArray.size < bs.toArray.size)=decide (ts.length < us.length):=by
     rw[z9,z9,<-l2,<-o,x,l1]
    rw[e2];refine aX ?_;rw[dS,ltT_iff];simp[code,LtC]
   rw[<-e];exact this
  |_=>exact mI (fun ts e=>by cases e) hc h1 h2 r1 r2
end
end Tre
namespace Srt
open PySem PySem.W PySem.Calls PyProof.Rows
theorem fu{α:Type}(d:α):∀(vs:List α),(List.range vs.length).map (fun i=>vs.getD i d)=vs
 | []=>rfl
 |v::vs=>by
  rw[zq,List.range_succ_eq_map,zj,AG];have:=fu d vs;simp only[Function.comp_def];show v::List.map (fun i=>vs.getD i d) (List.range vs.length)=v::vs;rw[this]
theorem m4{α:Type}:∀(vs:List α),List.map (fun x=>x.snd) (vs.zip vs)=vs
 | []=>rfl
 |v::vs=>by
  rw[Al,zj,m4 vs]
section
variable{prog:Program}{w:World}{A:Around}{E:Value->Shared->Prop}{s:Shared}{lt:Nat->Nat->Bool}{κ:SortKind}
def Stay(s:Shared)(a:Addr)(h':Heap):Prop:=∀b o,b≠a->s.heap.get? b=some o->h'.get? b=some o
theorem iw{a:Addr}{vs:List Value}{n:Nat}{P:PySem.Fin->Shared->Prop}(O:Ord lt)(ho:s.heap.get? a=some (seqObj "list" vs.toArray n))(h64:vs.length < 64)(hkind:2<=vs.length->∀h',Stay s a h'->∀R:SortKind->Shared->Prop,R κ {s with heap:=h'}->wpAny (model prog w) A (keyKind' vs.toArray) R E {s with heap:=h'})(hask:∀h',Stay s a h'->∀i j (R:Bool->Shared->Prop),i < vs.length->j < vs.length->R (lt i j) {s with heap:=h'}->kas_ask prog w A κ vs i j R {s with heap:=h'})(h:∀p:Array Nat,Pm vs.length p->Up lt p vs.length->P (.done (.ret .none)) {s with heap:=sortedHeap s.heap a vs (List.toArray (p.toList.map fun i=>vs.getD i Value.none))}):
 wpAny (model prog w) A (Builtin.«list.sort» ⟨[.ref a],[]⟩) P E s:=by
 have ha:a < s.heap.objs.size:=Heap.lt_size ho;rw[list_sort_plain];refine wpAny_bind (listItems_at ho rfl ?_);refine wpAny_bind (listUpdate_at ho rfl ?_ (by rw[z9,sizeLine_eq];omega) (zr _))
 obtain⟨e1,g⟩:∃e1,(s.heap.update a (Obj.mapSeq fun _=>(#[]:Array Value))).get? a=some (seqObj "list" #[] e1):=⟨_,get?_update_seq ho fun _=> #[]⟩;refine wpAny_bind (seqEpoch_at g rfl ?_);refine wpAny_bind (wpAny_newTuple ?_ (by show vs.length<=_;rw[sizeLine_eq];omega))
 refine wpAny_bind (wpAny_newList ?_ (zr _));refine wpAny_holding ?_;have s1:=Heap.SameBut.update s.heap a (Obj.mapSeq fun _=>(#[]:Array Value))
 have st:Stay s a (((s.heap.update a (Obj.mapSeq fun _=>(#[]:Array Value))).push (seqObj "tuple" vs.toArray 0)).push (seqObj "list" #[] 0)):=fun b o hb e=>
  Heap.get?_push_of_some _ (Heap.get?_push_of_some _ ((s1.2 b hb).trans e))
 have c:(((s.heap.update a (Obj.mapSeq fun _=>(#[]:Array Value))).push (seqObj "tuple" vs.toArray 0)).push (seqObj "list" #[] 0)).get? a=some (seqObj "list" #[] e1):=Heap.get?_push_of_some _ (Heap.get?_push_of_some _ g);show wpAny (model prog w) A _ P E {s with heap:=((s.heap.update a (Obj.mapSeq fun _=>(#[]:Array Value))).push (seqObj "tuple" vs.toArray 0)).push (seqObj "list" #[] 0)};dsimp only
 have out:∀p:Array Nat,Pm vs.length p->(List.toArray (p.toList.map fun i=>vs.getD i Value.none)).size<=sizeLine:=fun p hp=>by
  rw[z9,yY,zO,hp.size,sizeLine_eq];omega
 by_cases h2:vs.toArray.size < 2
 . rw[if_pos h2,if_pos h2];refine wpAny_bind (wpAny_pure ?_);rw[StateT.run_pure];refine wpAny_bind (wpAny_pure ?_);dsimp only;refine wpAny_bind (seqEpoch_at c rfl ?_)
   have h0:Pm vs.length (List.toArray (List.range vs.length)):=by
    unfold Pm;simp
   have u:(arrOf (SortSt.mk' general' (vs.toArray.zip vs.toArray) #[] 7 none)).map (·.2)=List.toArray ((List.toArray (List.range vs.length)).toList.map fun i=>vs.getD i Value.none):=by
    rw[Aw,fu];show(vs.toArray.zip vs.toArray).map (·.2)=vs.toArray;apply Array.toList_inj.mp;simp;exact m4 vs
   rw[u];refine wpAny_bind (listUpdate_at c rfl ?_ (zr _) (Nat.le_succ_of_le (out _ h0)));simp only[bne_self_eq_false,Ag,if_false];refine wpAny_pure (h _ h0 fun i j t q=>?_);have hv:vs.length < 2:=by simpa using h2
   have:i=j:=by omega
   subst this;exact O.refl _
 . rw[if_neg h2,if_neg h2]
   have f:2<=vs.length:=by
    rw[z9]at h2;omega
   refine wpAny_bind (hkind f _ st _ ?_)
   have run:(kas_sort vs.length).kasWp (kas_ask prog w A κ vs) (fun p s'=>(Pm vs.length p/\Up lt p vs.length)/\s'= {s with heap:=((s.heap.update a (Obj.mapSeq fun _=>(#[]:Array Value))).push (seqObj "tuple" vs.toArray 0)).push (seqObj "list" #[] 0)})
    {s with heap:=((s.heap.update a (Obj.mapSeq fun _=>(#[]:Array Value))).push (seqObj "tuple" vs.toArray 0)).push (seqObj "list" #[] 0)}:=
    pi (lt:=lt) (N:=vs.length) (G:=fun s'=>s'= {s with heap:=((s.heap.update a (Obj.mapSeq fun _=>(#[]:Array Value))).push (seqObj "tuple" vs.toArray 0)).push (seqObj "list" #[] 0)})
     (fun i j R s' hi q l y=>by subst l;exact hask _ st i j R hi q (y _ rfl)) (fun p s' hp l=>⟨hp,l⟩) (vW O (by omega)) rfl
   refine wpAny_bind (wpAny_mono (kat_run (ks:=vs) (Q:=fun d s'=>∃p:Array Nat,(Pm vs.length p/\Up lt p vs.length)/\arrOf d=p.map (kas_item (vs.toArray.zip vs.toArray))/\failedOf d=none/\s'= {s with heap:=((s.heap.update a (Obj.mapSeq fun _=>(#[]:Array Value))).push (seqObj "tuple" vs.toArray 0)).push (seqObj "list" #[] 0)})
    rfl f h64 (fun p d s' z x r m=>⟨p,m.1,x,r,m.2⟩) run) ?_ fun _ _ e=>e)
   rintro⟨⟨⟩,d⟩ s' ⟨p,hp,k,v,rfl⟩;dsimp only;refine wpAny_bind (seqEpoch_at c rfl ?_);rw[kat_snds rfl k];refine wpAny_bind (listUpdate_at c rfl ?_ (zr _) (Nat.le_succ_of_le (out p hp.1)));rw[v];simp only[bne_self_eq_false,Ag,if_false];exact wpAny_pure (h p hp.1 hp.2)
end
end Srt
namespace Tre
open PySem PySem.Spec PyProof.Rows L2 Srt
theorem iM{prog:Program}{w:World}{A:Around}{s:Shared}{fin:Bool}{Q:Bool->Shared->Prop}:∀ {as bs:List Value} {q:List (Bool×Bool)} {i:Nat},bD A s as bs q->Q (lexV fin q) s->PySem.W.KatLex prog w A false fin Q (as.zip bs) i s
 | [],_,q,i,h,hq=>by
  unfold bD at h;subst h;rw[List.zip_nil_left];exact PySem.W.kat_nil hq
 |_::_,[],q,i,h,hq=>by
  unfold bD at h;subst h;rw[List.zip_nil_right];exact PySem.W.kat_nil hq
 |a::as,b::bs,[],i,h,hq=>h.elim
 |a::as,b::bs,(e,l)::q,i,h,hq=>by
  obtain⟨h1,h2,h3⟩:=h;rw[Al];refine PySem.W.kat_cons (h1 prog w _ _ ?_)
  cases e with
  |true=>exact PySem.W.kat_yes (iM (h3 rfl) hq)
  |false=>
   refine PySem.W.kat_no ?_;show wpAny _ _ (oneLt' false a b) _ _ _;exact PySem.W.kat_one a b (h2 rfl prog w _ _ hq)
def Hd(t:Tr):Prop:=∃fs r,t= .tup (.tup fs::r)
theorem TrsAt.map{H:Hp}{vs:List V}{ts:List Tr}(h:TrsAt H vs ts):∀ {is:List Nat},(∀i∈is,i < ts.length)->TrsAt H (is.map fun i=>vs.getD i .non) (is.map fun i=>ts.getD i .non)
 | [],_=> .nil
 |i::is,hi=>by
  have h0:i < ts.length:=hi i z6;have hl:=h.len;obtain⟨v,e1,e2⟩:=h.get (i:=i) (t:=ts[i]) (yZ h0);have a:vs.getD i .non=v:=by rw[zd,e1];rfl
  have b:ts.getD i .non=ts[i]:=by rw[zd,yZ h0];rfl
  rw[zj,zj,a,b];exact .cons e2 (TrsAt.map h fun j m=>hi j (z5 _ m))
theorem Vals.map{vs:List V}{as:List Value}(h:Vals vs as):∀ {is:List Nat},(∀i∈is,i < vs.length)->Vals (is.map fun i=>vs.getD i .non) (is.map fun i=>as.getD i Value.none)
 | [],_=> .nil
 |i::is,hi=>by
  have h0:i < vs.length:=hi i z6;obtain⟨u,e1,e2⟩:=h.get (i:=i) (x:=vs[i]) (yZ h0);have a:vs.getD i .non=vs[i]:=by rw[zd,yZ h0];rfl
  have b:as.getD i Value.none=u:=by rw[zd,e1];rfl
  rw[zj,zj,a,b];exact .cons e2 (Vals.map h fun j m=>hi j (z5 _ m))
section
variable{X:Cx}{pins:List (Addr×Obj)}{σ:L2.St}{H:Hp}{s:Shared}
theorem c8(I:Inv X pins σ H s){r:Addr}{vs:List V}(h:H r=some (.tup vs)):∃(as:List Value) (o:Obj) (n:Nat),Vals vs as/\s.heap.get? r=some o/\o.cls= .type "tuple"/\o.data= .seq as.toArray n:=by
 obtain⟨as,q,p,_⟩:=I.tuple (SqT.of h);obtain⟨o,ho,hc,n,hd⟩:=(show s.heap.IsTuple r as.toArray from p);exact⟨as,o,n,q,ho,hc,hd⟩
theorem i3(I:Inv X pins σ H s):∀ {vs:List V} {ts:List Tr} {as:List Value},TrsAt H vs ts->Vals vs as->(∀t∈ts,Hd t)->∃fs,PySem.W.KatTups s.heap as fs/\fs.length=as.length/\∀v∈fs,∃(r:Addr) (o:Obj),v= .ref r/\s.heap.get? r=some o/\o.cls= .type "tuple"
 |vs,[],as,h,r,_=>by
  unfold TrsAt at h;subst h;cases r;exact⟨[],PySem.W.KatTups.nil,rfl,fun v m=>by cases m⟩
 |vs,t::ts,as,h,r,hh=>by
  obtain⟨v,w,rfl,h1,h2⟩:=h.inv
  cases r with
  |cons c l=>
   obtain⟨fs,k1,k2,k3⟩:=i3 I h2 l fun t m=>hh t (z5 _ m);obtain⟨y,z,rfl⟩:=hh t z6;unfold TrAt at h1;obtain⟨x,d,rfl,p,q⟩:=h1;cases c;obtain⟨f,fr,rfl,h3,u⟩:=q.inv;obtain⟨i,o,n,e,ho,hc,hd⟩:=c8 I p
   cases e with
   |cons k q6=>
    unfold TrAt at h3;obtain⟨r1,j,rfl,g2,_⟩:=h3;cases k;obtain⟨_,g,_,_,b,a,_⟩:=c8 I g2;refine⟨.ref r1::fs,PySem.W.KatTups.cons ho hc hd (by simp) k1,by simp[k2],fun v m=>?_⟩
    rcases zc.mp m with rfl|m
    . exact⟨r1,g,rfl,b,a⟩
    . exact k3 v m
def uv:List V->Hp->VK->Prop:=fun xs H Q=>∃(l:Addr) (vs:List V) (ts:List Tr),xs= [.ref l]/\H l=some (.lst vs)/\TrsAt H vs ts/\ts.length < 64/\(∀t∈ts,Hd t/\t.pure/\t.depth<=40)/\(∀t∈ts,∀u∈ts,Cm t u)/\
 ∀(D:Addr) (ws:List V) (us:List Tr),H D=none->us.Perm ts->TrsAt H ws us->(∀(i j:Nat) (t u:Tr),i<=j->us[i]?=some t->us[j]?=some u->ltT u t=false)->Q (.ref D) (upd H D (.lst ws))
end
end Tre
namespace Tre
open PySem L2
inductive So where
 |tm|fr|pr|ws|lt
abbrev s_(x:String):Tr:= .str (Str.ofString x)
inductive Ty:So->Tr->Prop
 |nm (x:Str):Ty .tm (.tup [s_ "name", .str x])
 |ap (x:Str) (ts:List Tr):ts.length<=3->(∀t∈ts,Ty .tm t)->Ty .tm (.tup [s_ "call", .str x, .tup ts])
 |fr (a b:Int):Ty .fr (.tup [.int a, .int b])
 |pr (t f:Tr):Ty .tm t->Ty .fr f->Ty .pr (.tup [t,f])
 |fl (x:Str):Ty .ws (.tup [s_ "flag", .str x])
 |mo (ps:List Tr) (f:Tr):(∀p∈ps,Ty .pr p)->Ty .fr f->Ty .ws (.tup [s_ "most", .tup ps,f])
 |li (t u:Tr):Ty .tm t->Ty .tm u->Ty .ws (.tup [s_ "like",t,u])
 |no (w:Tr):Ty .ws w->Ty .ws (.tup [s_ "not",w])
 |bo (l:List Tr):(∀w∈l,Ty .ws w)->Ty .ws (.tup [s_ "both", .tup l])
 |ei (l:List Tr):(∀w∈l,Ty .ws w)->Ty .ws (.tup [s_ "either", .tup l])
 |lt (w:Tr) (b:Bool):Ty .ws w->Ty .lt (.tup [w, .bl b])
theorem aG{t u:Tr}{ts us:List Tr}(h1:eqT t u=false->Cm t u)(h2:Cms ts us):Cms (t::ts) (u::us):=by
 unfold Cms
 cases e:eqT t u with
 |true=>exact .inl ⟨rfl,h2⟩
 |false=>exact .inr ⟨rfl,h1 e⟩
theorem xQ{t u:Tr}{ts us:List Tr}(h0:eqT t u=false)(h1:Cm t u):Cms (t::ts) (u::us):=by
 unfold Cms;exact .inr ⟨h0,h1⟩
theorem bn{us:List Tr}:Cms [] us:=by
 cases us<;>simp[Cms]
theorem ck(x y:Str):Cm (.str x) (.str y):=by simp[Cm]
theorem fN(x y:Int):Cm (.int x) (.int y):=by simp[Cm]
theorem yV(x y:Bool):Cm (.bl x) (.bl y):=by simp[Cm]
theorem dM{ts us:List Tr}(h:Cms ts us):Cm (.tup ts) (.tup us):=by
 unfold Cm;exact h
theorem gi{ts us:List Tr}(h:∀t∈ts,∀u∈us,Cm t u):Cms ts us:=by
 induction ts generalizing us with
 |nil=>exact bn
 |cons t ts c=>
  cases us with
  |nil=>simp[Cms]
  |cons u us=>exact aG (fun _=>h t z6 u z6) (c fun a ma b mb=>h a (z5 _ ma) b (z5 _ mb))
theorem m9:∀(n:Nat) {k:So} {t u:Tr},t.depth<=n->Ty k t->Ty k u->Cm t u:=by
 intro n
 induction n with
 |zero=>
  intro k t u hd h1 h2;cases h1<;>simp[Tr.depth]at hd
 |succ n f=>
  intro k t u hd h1 h2
  have sub:∀ {ts:List Tr} {t:Tr},(Tr.tup ts).depth<=n+1->t∈ts->t.depth<=n:=fun h m=>by
   unfold Tr.depth at h;have:=bA m;omega
  have c:∀ {ts l:List Tr} {t:Tr},(Tr.tup ts).depth<=n+1->Tr.tup l∈ts->t∈l->t.depth<=n:=fun h m j=>by
   have h3:=sub h m;unfold Tr.depth at h3;have:=bA j;omega
  cases h1<;>cases h2<;>refine dM ?_
  all_goals first
   |exact xQ (by decide +kernel) (ck _ _)
   |skip
  . exact aG (fun _=>ck _ _) (aG (fun _=>ck _ _) bn)
  . rename_i x ts _ h1 y us _ h2;exact aG (fun _=>ck _ _) (aG (fun _=>ck _ _) (aG (fun _=>dM (gi fun a ma b mb=>f (c hd (by simp) ma) (h1 a ma) (h2 b mb))) bn))
  . exact aG (fun _=>fN _ _) (aG (fun _=>fN _ _) bn)
  . rename_i o q d b1 t2 i e b2;exact aG (fun _=>f (sub hd (by simp)) d e) (aG (fun _=>f (sub hd (by simp)) b1 b2) bn)
  . exact aG (fun _=>ck _ _) (aG (fun _=>ck _ _) bn)
  . rename_i r q d b1 p2 i e b2;exact aG (fun _=>ck _ _) (aG (fun _=>dM (gi fun a ma b mb=>f (c hd (by simp) ma) (d a ma) (e b mb))) (aG (fun _=>f (sub hd (by simp)) b1 b2) bn))
  . rename_i o s d b1 t2 v e b2;exact aG (fun _=>ck _ _) (aG (fun _=>f (sub hd (by simp)) d e) (aG (fun _=>f (sub hd (by simp)) b1 b2) bn))
  . rename_i p d g e;exact aG (fun _=>ck _ _) (aG (fun _=>f (sub hd (by simp)) d e) bn)
  . rename_i l1 d l2 e;exact aG (fun _=>ck _ _) (aG (fun _=>dM (gi fun a ma b mb=>f (c hd (by simp) ma) (d a ma) (e b mb))) bn)
  . rename_i l1 d l2 e;exact aG (fun _=>ck _ _) (aG (fun _=>dM (gi fun a ma b mb=>f (c hd (by simp) ma) (d a ma) (e b mb))) bn)
  . rename_i p b1 d g b2 e;exact aG (fun _=>f (sub hd (by simp)) d e) (aG (fun _=>yV _ _) bn)
theorem eS{ts:List Tr}(h:∀t∈ts,t.pure):Trs.pure ts:=by
 induction ts with
 |nil=>unfold Trs.pure;trivial
 |cons t ts a=>
  unfold Trs.pure;exact⟨h t z6,a fun u m=>h u (z5 _ m)⟩
theorem cX{k:So}{t:Tr}(h:Ty k t):t.pure:=by
 induction h with
 |nm x=>simp[Tr.pure,Trs.pure]
 |ap x ts _ _ c=>simp only[Tr.pure,Trs.pure];exact⟨trivial,trivial,eS c,trivial⟩
 |fr a b=>simp[Tr.pure,Trs.pure]
 |pr t f _ _ h1 h2=>simp only[Tr.pure,Trs.pure];exact⟨h1,h2,trivial⟩
 |fl x=>simp[Tr.pure,Trs.pure]
 |mo ps f _ _ h1 h2=>simp only[Tr.pure,Trs.pure];exact⟨trivial,eS h1,h2,trivial⟩
 |li t u _ _ h1 h2=>simp only[Tr.pure,Trs.pure];exact⟨trivial,h1,h2,trivial⟩
 |no w _ h1=>simp only[Tr.pure,Trs.pure];exact⟨trivial,h1,trivial⟩
 |bo l _ h1=>simp only[Tr.pure,Trs.pure];exact⟨trivial,eS h1,trivial⟩
 |ei l _ h1=>simp only[Tr.pure,Trs.pure];exact⟨trivial,eS h1,trivial⟩
 |lt w b _ h1=>simp only[Tr.pure,Trs.pure];exact⟨h1,trivial,trivial⟩
theorem xW{t:Tr}(h:Ty .lt t\/Ty .pr t):Hd t:=by
 rcases h with h|h
 . cases h with
   |lt w b hw=>cases hw<;>exact⟨_,_,rfl⟩
 . cases h with
   |pr t f ht a=>cases ht<;>exact⟨_,_,rfl⟩
end Tre
namespace L2
open PySem PySem.Spec PyProof.Rows
theorem FnScope.of{N P:List Str}{sc:Scope}(h1:sc.kind= .function:=by rfl)(h2:sc.isCoroutine=false:=by rfl)(h3:sc.isGenerator=false:=by rfl)(h4:N.Nodup:=by decide +kernel)(h5:N.take P.length=P:=by rfl)(h6:∀x∈P,sc.names.lookup x=some .local\/sc.names.lookup x=some .cell:=by decide +kernel)(h7:∀y∈sc.names,y.2≠ .free:=by decide +kernel):FnScope N P sc:=⟨h1,h2,h3,h4,h5,h6,h7⟩
section
variable{X:Cx}{pos:Pos}{x:Str}{e:Expr}{te:TE}{pos':Pos}
theorem psA(i:Nat)(hN:X.N.Nodup)(he:PE X e te)(hi:X.N[i]?=some x:=by rfl)(hx:X.env.scope.names.lookup x=some .local:=by rfl)(hs:swapsWith e (some (.Name x pos')) pos.line X.env=pure false:=by rfl):PS X (.Assign [.Name x pos'] e pos) (tAsg te (aJ i)):=
 rC hN hi (Or.inl hx) he hs (Or.inr hx)
theorem psR(i:Nat)(hN:X.N.Nodup)(he:PE X e te)(hi:X.N[i]?=some x:=by rfl)(hx:X.env.scope.names.lookup x=some .cell:=by rfl)(hf:X.fn x=true:=by rfl)(hs:swapsWith e (some (.Name x pos')) pos.line X.env=pure false:=by rfl):PS X (.Assign [.Name x pos'] e pos) (tAsg te (aJ i)):=
 rC hN hi (Or.inr hx) he hs (Or.inl hf)
theorem pgA(i:Nat)(hN:X.N.Nodup)(hi:X.N[i]?=some x:=by rfl)(hx:X.env.scope.names.lookup x=some .local:=by rfl):PG X (.Name x pos) (aJ i):=jh hN hi (Or.inl hx) (Or.inr hx)
end
theorem two:2<=sizeLine:=by decide
section
variable{P:Program}{w:World}{K:PySem.W.Frag}{mg:Str->Option Value}{base:Heap}
theorem Fun.okb{x qual:Str}{st:Stmt}{f:Addr}{fd:FuncData}{N ps:List Str}{k:Nat}{sp:Sp}(F:Fun K x qual st f fd)(S:FnScope N ps (ah st))(hb:∀vs H Q E,sp vs H Q E->vs.length=ps.length/\∀(cdv:Value) (A:Around) (outer:List Env) (s:Shared),Room k (A.deeper (envOfC qual (ah st) s.heap.objs.size f cdv))->
  ∃t,PSs (cxOf CX0 P w K mg base N qual (ah st) f cdv A outer s H E).nox (aM st) t/\t {nx:=fun _ H'=>Q .non H',rt:=Q} (eM N vs) H):FnOk P w K mg base CX0 (k+1) f fd ps sp:=
 F.ok S (fun vs H Q E h=>(hb vs H Q E h).1) fun cdv A outer s H vs Q E hr h=>(hb vs H Q E h).2 cdv A outer s hr
end
structure FH (K:PySem.W.Frag) (n:Str) (st:Stmt) (f:Addr) (fd:FuncData):Prop where
 ex:∃(oc:Value) (od:Option Addr) (kV doc pm:Value) (an:Option Addr) (cdv ct:Value) (osl:Array (Option Value)),
  fd=PySem.W.fnOf n n (b9 st) (aM st) (ah st) .none kV doc pm an cdv ct/\K.lookup f=some ⟨oc,od, .func fd,osl⟩/\PySem.W.codeIn K cdv n=true
 kp:PySem.W.keepIn K (.ref f)=true
 ns:PySem.W.nsIn K mainGlobals n=some (some (.ref f))
section
variable{K:PySem.W.Frag}{n:Str}{st:Stmt}{f:Addr}{fd:FuncData}
theorem FH.mk'{oc:Value}{od an:Option Addr}{osl:Array (Option Value)}{kV doc pm cdv ct:Value}(a:PySem.W.nsIn K mainGlobals n=some (some (.ref f)))(l:K.lookup f=some ⟨oc,od, .func (PySem.W.fnOf n n (b9 st) (aM st) (ah st) .none kV doc pm an cdv ct),osl⟩)(c:PySem.W.codeIn K cdv n=true)(k:PySem.W.keepIn K (.ref f)=true):FH K n st f (PySem.W.fnOf n n (b9 st) (aM st) (ah st) .none kV doc pm an cdv ct):=⟨⟨_,_,_,_,_,_,_,_,_,rfl,l,c⟩,k,a⟩
theorem FH.fn(h:FH K n st f fd):Fun K n n st f fd:=⟨h.ex,h.kp⟩
theorem FH.b(h:FH K n st f fd){ps:List Str}(hb:∀(kV doc pm:Value) (an:Option Addr) (cdv ct:Value) (us:List Value),us.length=ps.length->bindArgs (PySem.W.fnOf n n (b9 st) (aM st) (ah st) .none kV doc pm an cdv ct) ⟨us,[]⟩=pure (ps.zip us)):Binds K fd ps []:=h.fn.binds hb
theorem FH.b1{x:Str}(h:FH K n st f fd)(hb:∀(kV doc pm:Value) (an:Option Addr) (cdv ct a:Value),bindArgs (PySem.W.fnOf n n (b9 st) (aM st) (ah st) .none kV doc pm an cdv ct) ⟨[a],[]⟩=pure [(x,a)]:=by intros;rfl):Binds K fd [x] []:=h.b fun _ _ _ _ _ _ us hl=>match us,hl with| [_],_=>hb _ _ _ _ _ _ _
theorem FH.b2{x y:Str}(h:FH K n st f fd)(hb:∀(kV doc pm:Value) (an:Option Addr) (cdv ct a b:Value),bindArgs (PySem.W.fnOf n n (b9 st) (aM st) (ah st) .none kV doc pm an cdv ct) ⟨[a,b],[]⟩=pure [(x,a),(y,b)]:=by intros;rfl):Binds K fd [x,y] []:=h.b fun _ _ _ _ _ _ us hl=>match us,hl with| [_,_],_=>hb _ _ _ _ _ _ _ _
theorem FH.b3{x y z:Str}(h:FH K n st f fd)(hb:∀(kV doc pm:Value) (an:Option Addr) (cdv ct a b c:Value),bindArgs (PySem.W.fnOf n n (b9 st) (aM st) (ah st) .none kV doc pm an cdv ct) ⟨[a,b,c],[]⟩=pure [(x,a),(y,b),(z,c)]:=by intros;rfl):Binds K fd [x,y,z] []:=h.b fun _ _ _ _ _ _ us hl=>match us,hl with| [_,_,_],_=>hb _ _ _ _ _ _ _ _ _
theorem FH.b5{x y z u v:Str}(h:FH K n st f fd)(hb:∀(kV doc pm:Value) (an:Option Addr) (cdv ct a b c d e:Value),bindArgs (PySem.W.fnOf n n (b9 st) (aM st) (ah st) .none kV doc pm an cdv ct) ⟨[a,b,c,d,e],[]⟩=pure [(x,a),(y,b),(z,c),(u,d),(v,e)]:=by intros;rfl):Binds K fd [x,y,z,u,v] []:=h.b fun _ _ _ _ _ _ us hl=>match us,hl with| [_,_,_,_,_],_=>hb _ _ _ _ _ _ _ _ _ _ _
end
structure Cl (P:Program) (w:World) (K:PySem.W.Frag) (mg:Str->Option Value) (base:Heap) (n:Nat) (x:Str) (ps:List Str) (sp:Sp):Prop where
 ex:∃(f:Addr) (fd:FuncData),FnOk P w K mg base CX0 n f fd ps sp/\PySem.W.keepIn K (.ref f)=true/\Binds K fd ps []/\mg x=some (.ref f)
theorem FH.c{P:Program}{w:World}{K:PySem.W.Frag}{mg:Str->Option Value}{base h0:Heap}{n:Str}{st:Stmt}{f:Addr}{fd:FuncData}{ps:List Str}{k:Nat}{sp:Sp}(h:FH K n st f fd)(X:K.In h0)(G:h0.Ns mainGlobals mg)(b:Binds K fd ps [])(g:FnOk P w K mg base CX0 k f fd ps sp):Cl P w K mg base k n ps sp:=⟨f,fd,g,h.kp,b,PySem.W.mg_of X G h.ns⟩
theorem ak{X:Cx}{k:Nat}{x:Str}{ps:List Str}{sp:Sp}{e:Expr}{es:List Expr}{t:TA}{p pos:Pos}(C:Cl X.prog X.w X.K X.mg X.base k x ps sp)(hr:Room k X.A)(ha:PA X (e::es) t)(hg:Gl X x:=by rfl)(hdb:(x==("__debug__":Str))=false:=by decide)(he:starEach (e::es) X.env=(false,eval e X.env)::starEach es X.env:=by rfl)(hpl:(backTo pos (starEach es X.env)).any (·.1)=false:=by rfl):
 PE X (.Call (.Name x p) (e::es) [] pos) (pQ sp [] E0 t):=by
 obtain⟨f,fd,g,kp,b,m⟩:=C.ex;exact dR g hr hg m kp b .nil gX ha hdb he hpl
open PySem PySem.Spec PyProof.Rows
section
variable{X:Cx}
end
open PySem PySem.Spec PyProof.Rows
section
variable{X:Cx}{tg:Expr}
end
section
variable{X:Cx}{tg:Expr}
end
open PySem PySem.Spec PyProof.Rows
section
variable{prog:Program}{w:World}{A:Around}{E:Value->Shared->Prop}{s:Shared}
end
section
variable{X:Cx}
end
end L2
namespace Dec
open PySem PySem.NumText
def cl(x:Str):List Nat:=x.cps.toList
theorem ii(x y:Str):cl (x++y)=cl x++cl y:=by
 show(x.cps++y.cps).toList=_;simp[cl]
theorem cl_inj{x y:Str}(h:cl x=cl y):x=y:=by
 cases x;cases y;simp only[Str.mk.injEq];exact Array.toList_inj.mp h
theorem cP(x:Str):(cl x).length=x.length:=by simp[cl,Str.length]
end Dec
namespace Mth
theorem sW(a b:Int):Int.gcd b (a.fmod b)=Int.gcd a b:=by
 have e:a.fmod b=a - b*a.fdiv b:=Int.fmod_def a b;rw[e,Int.gcd_comm a b];have:a - b*a.fdiv b=a+b*(-(a.fdiv b)):=by rw[Int.mul_neg,Int.sub_eq_add_neg]
 rw[this];exact Int.gcd_add_mul_left_right ..
theorem vd{a b:Int}(h:b≠0):(a.fmod b).natAbs < b.natAbs:=by
 by_cases hb:0 < b
 . have h1:=Int.fmod_nonneg_of_pos a hb;have h2:=Int.fmod_lt_of_pos a hb;omega
 . have h3:0 < -b:=by omega
   have e:a.fmod b= -((-a).fmod (-b)):=by
    rw[Int.neg_fmod_neg,Int.neg_neg]
   have h1:=Int.fmod_nonneg_of_pos (-a) h3;have h2:=Int.fmod_lt_of_pos (-a) h3;omega
noncomputable def dv(t b:Int):Int:=if b < 0 then -(Int.gcd t b:Int)else(Int.gcd t b:Int)
noncomputable def fx(t b:Int):Int:=t.fdiv (dv t b)
noncomputable def fy(t b:Int):Int:=b.fdiv (dv t b)
theorem tf{t b:Int}(h:b≠0):dv t b≠0:=by
 have:0 < Int.gcd t b:=A3 t h;unfold dv;split<;>omega
theorem xK{t b:Int}:(dv t b).natAbs=Int.gcd t b:=by
 unfold dv;split<;>omega
theorem xJ{t b:Int}:dv t b∣t/\dv t b∣b:=by
 have h1:((Int.gcd t b:Nat):Int)∣t:=Int.gcd_dvd_left ..;have h2:((Int.gcd t b:Nat):Int)∣b:=Int.gcd_dvd_right ..;unfold dv;split
 . exact⟨Int.neg_dvd.mpr h1,Int.neg_dvd.mpr h2⟩
 . exact⟨h1,h2⟩
theorem parts{t b:Int}(h:b≠0):t=dv t b*fx t b/\b=dv t b*fy t b:=by
 obtain⟨⟨x,hx⟩,⟨y,hy⟩⟩:=xJ (t:=t) (b:=b);have n:=tf (t:=t) h
 have e1:fx t b=x:=by
  unfold fx;generalize dv t b=d at*;rw[hx];exact Int.mul_fdiv_cancel_left _ n
 have e2:fy t b=y:=by
  unfold fy;generalize dv t b=d at*;rw[hy];exact Int.mul_fdiv_cancel_left _ n
 rw[e1,e2];exact⟨hx,hy⟩
theorem xF{t b:Int}(h:b≠0):1<=fy t b:=by
 obtain⟨_,e⟩:=parts (t:=t) h;have g:0 < Int.gcd t b:=A3 t h;have n:=tf (t:=t) h;by_cases q:1<=fy t b
 . exact q
 . exfalso;have a:fy t b<=0:=by omega
   have d:(b < 0->dv t b < 0)/\(¬b < 0->0 < dv t b):=by
    unfold dv;constructor
    . intro z;rw[if_pos z];omega
    . intro z;rw[if_neg z];omega
   by_cases z:b < 0
   . have:=Int.mul_nonneg_of_nonpos_of_nonpos (Int.le_of_lt (d.1 z)) a;omega
   . have:=Int.mul_nonpos_of_nonneg_of_nonpos (Int.le_of_lt (d.2 z)) a;omega
theorem xk{t b:Int}(h:b≠0):Int.gcd (fx t b) (fy t b)=1:=by
 obtain⟨e1,e2⟩:=parts (t:=t) h;have g:0 < Int.gcd t b:=A3 t h
 have e:Int.gcd t b=(dv t b).natAbs*Int.gcd (fx t b) (fy t b):=by
  have:Int.gcd t b=Int.gcd (dv t b*fx t b) (dv t b*fy t b):=by rw[<-e1,<-e2]
  rw[this,Int.gcd_mul_left]
 rw[xK]at e;have:=Nat.eq_of_mul_eq_mul_left g (show Int.gcd t b*1=Int.gcd t b*Int.gcd (fx t b) (fy t b)by rw[<-e,Nat.mul_one])
 exact this.symm
def im(x y:Int):Prop:=0 < y/\Int.gcd x y=1
theorem jE{x y z:Int}(h1:Int.gcd x y=1)(h2:Int.gcd x z=1):Int.gcd x (y*z)=1:=by
 show Nat.gcd x.natAbs (y*z).natAbs=1;rw[zM];exact Nat.Coprime.mul_right h1 h2
theorem tF{x y z:Int}(h1:Int.gcd y x=1)(h2:Int.gcd z x=1):Int.gcd (y*z) x=1:=by
 rw[Int.gcd_comm];exact jE (by rw[Int.gcd_comm];exact h1) (by rw[Int.gcd_comm];exact h2)
theorem tG{x x' y:Int}(h:Int.gcd (x'*x) y=1):Int.gcd x' y=1:=by
 have e:Nat.gcd (x'*x).natAbs y.natAbs=1:=h;rw[zM]at e;exact Nat.Coprime.coprime_mul_right e
theorem fL{x x' y:Int}(h:Int.gcd (x*x') y=1):Int.gcd x' y=1:=by
 rw[AM]at h;exact tG h
theorem iP{x y y':Int}(h:Int.gcd x (y*y')=1):Int.gcd x y'=1:=by
 rw[Int.gcd_comm]at h ⊢;exact fL h
theorem cQ{x y:Int}(h:y≠0):∃x' y':Int,x=(Int.gcd x y:Int)*x'/\y=(Int.gcd x y:Int)*y'/\Int.gcd x' y'=1/\x / (Int.gcd x y:Int)=x'/\y / (Int.gcd x y:Int)=y':=by
 have g:0 < Int.gcd x y:=A3 x h;obtain⟨x',hx⟩:((Int.gcd x y:Nat):Int)∣x:=Int.gcd_dvd_left ..;obtain⟨y',hy⟩:((Int.gcd x y:Nat):Int)∣y:=Int.gcd_dvd_right ..;have n:((Int.gcd x y:Nat):Int)≠0:=by omega
 refine⟨x',y',hx,hy,?_,?_,?_⟩
 . have e:Int.gcd x y=Int.gcd x y*Int.gcd x' y':=by
    have:Int.gcd x y=Int.gcd ((Int.gcd x y:Int)*x') ((Int.gcd x y:Int)*y'):=by rw[<-hx,<-hy]
    rw[Int.gcd_mul_left,Int.natAbs_natCast]at this;exact this
   have:=Nat.eq_of_mul_eq_mul_left g (show Int.gcd x y*1=Int.gcd x y*Int.gcd x' y' by rw[<-e,Nat.mul_one])
   exact this.symm
 . generalize ((Int.gcd x y:Nat):Int)=k at*;rw[hx];exact Int.mul_ediv_cancel_left _ n
 . generalize ((Int.gcd x y:Nat):Int)=k at*;rw[hy];exact Int.mul_ediv_cancel_left _ n
theorem de{k x:Int}(hk:0<=k)(h:0 < k*x):0 < x:=by
 by_cases q:0 < x
 . exact q
 . have:=Int.mul_nonpos_of_nonneg_of_nonpos hk (show x<=0 by omega)
   omega
noncomputable def tX(a b c d:Int):Int:=a / (Int.gcd a d:Int)*(c / (Int.gcd c b:Int))
noncomputable def tY(a b c d:Int):Int:=b / (Int.gcd c b:Int)*(d / (Int.gcd a d:Int))
theorem pF{a b c d:Int}(h1:im a b)(h2:im c d):im (tX a b c d) (tY a b c d)/\tX a b c d*(b*d)=a*c*tY a b c d:=by
 obtain⟨b0,v⟩:=h1;obtain⟨z,g2⟩:=h2;obtain⟨s,d',q,r,o,t,p⟩:=cQ (x:=a) (y:=d) (by omega)
 obtain⟨l,h,j,w,u,n,i⟩:=cQ (x:=c) (y:=b) (by omega)
 have m:(0:Int)<=(Int.gcd a d:Int):=by omega
 have k0:(0:Int)<=(Int.gcd c b:Int):=by omega
 unfold tX tY;rw[t,p,n,i];generalize ((Int.gcd a d:Nat):Int)=f at*;generalize ((Int.gcd c b:Nat):Int)=k at*;have g:0 < h:=de k0 (by omega)
 have e:0 < d':=de m (by omega)
 subst q r j w;have h1:Int.gcd s h=1:=fL (iP v);have h2:Int.gcd l d'=1:=fL (iP g2);refine⟨⟨Ax g e,tF (jE h1 o) (jE u h2)⟩,?_⟩;simp only[Int.mul_assoc,Int.mul_left_comm,AM]
theorem di{t b:Int}(h:b≠0):im (fx t b) (fy t b):=⟨by have:=xF (t:=t) h;omega,xk h⟩
theorem i8{c d:Int}(h:im c d):im (-c) d:=⟨h.1,by rw[Int.gcd_comm,Int.gcd_neg,Int.gcd_comm];exact h.2⟩
theorem dk(a b:Int):(a / b).natAbs<=a.natAbs:=Int.natAbs_ediv_le_natAbs a b
end Mth
namespace Dec
open PySem PySem.NumText L2 Mth
open PySem PySem.NumText L2 Mth
end Dec
namespace Tk
open PySem PySem.Spec PyProof.Rows L2
inductive KT where
 |lf (k:Key)
 |tp (ts:List KT)
noncomputable instance:DecidableEq KT:=Classical.typeDecidableEq KT
mutual
noncomputable def KT.depth:KT->Nat
 | .lf _=>0
 | .tp ts=>KTs.depth ts+1
noncomputable def KTs.depth:List KT->Nat
 | []=>0
 |t::ts=>max (KT.depth t) (KTs.depth ts)
end
theorem eA:∀ {ts:List KT} {t:KT},t∈ts->t.depth<=KTs.depth ts
 |a::ts,t,h=>by
  unfold KTs.depth;rcases zc.mp h with rfl|h
  . omega
  . have:=eA h;omega
mutual
def KAt(h:Heap):Value->KT->Prop
 |v, .lf k=>fV k v=true
 |v, .tp ts=>∃a o items n,v= .ref a/\h.get? a=some o/\o.cls= .type "tuple"/\o.data= .seq items n/\KsAt h items.toList ts
def KsAt(h:Heap):List Value->List KT->Prop
 |vs,[]=>vs= []
 |vs,t::ts=>∃v r,vs=v::r/\KAt h v t/\KsAt h r ts
end
mutual
theorem KAt.keep{h h':Heap}(k:∀a o items n,h.get? a=some o->o.data= .seq items n->h'.get? a=some o):∀ {v:Value} {t:KT},KAt h v t->KAt h' v t
 |v, .lf k,x=>by unfold KAt at x ⊢;exact x
 |v, .tp ts,x=>by
  unfold KAt at x ⊢;obtain⟨a,o,items,n,e,g,c,d,r⟩:=x;exact⟨a,o,items,n,e,k a o items n g d,c,d,KsAt.keep k r⟩
theorem KsAt.keep{h h':Heap}(k:∀a o items n,h.get? a=some o->o.data= .seq items n->h'.get? a=some o):∀ {vs:List Value} {ts:List KT},KsAt h vs ts->KsAt h' vs ts
 |vs,[],x=>by unfold KsAt at x ⊢;exact x
 |vs,t::ts,x=>by
  unfold KsAt at x ⊢;obtain⟨v,r,e,x1,b⟩:=x;exact⟨v,r,e,KAt.keep k x1,KsAt.keep k b⟩
end
mutual
theorem KAt.det{h:Heap}:∀ {v:Value} {t u:KT},KAt h v t->KAt h v u->t=u
 |v, .lf k, .lf j,x,y=>by
  unfold KAt at x y;rcases aF x with⟨i,t,rfl,rfl⟩|⟨f,t,rfl,rfl⟩
  . rcases aF y with⟨l,t',rfl,e⟩|⟨m,t',rfl,e⟩
    . injection e with e1 _;rw[e1]
    . cases e
  . rcases aF y with⟨l,t',rfl,e⟩|⟨m,t',rfl,e⟩
    . cases e
    . injection e with e1 _;rw[e1]
 |v, .lf k, .tp us,x,y=>by
  unfold KAt at x y;obtain⟨a,o,items,n,rfl,_⟩:=y;rcases aF x with⟨i,t,rfl,e⟩|⟨f,t,rfl,e⟩<;>cases e
 |v, .tp ts, .lf k,x,y=>by
  unfold KAt at x y;obtain⟨a,o,items,n,rfl,_⟩:=x;rcases aF y with⟨i,t,rfl,e⟩|⟨f,t,rfl,e⟩<;>cases e
 |v, .tp ts, .tp us,x,y=>by
  unfold KAt at x y;obtain⟨a,o,items,n,rfl,g,c,d,r⟩:=x;obtain⟨s,o',b,p,e,g',q,d',r'⟩:=y;injection e with e;subst e;rw[g]at g';cases g';rw[d]at d';injection d' with d1 _;subst d1;rw[KsAt.det r r']
theorem KsAt.det{h:Heap}:∀ {vs:List Value} {ts us:List KT},KsAt h vs ts->KsAt h vs us->ts=us
 |vs,[],[],_,_=>rfl
 |vs,[],u::us,x,y=>by
  unfold KsAt at x y;obtain⟨v,r,e,_⟩:=y;rw[x]at e;cases e
 |vs,t::ts,[],x,y=>by
  unfold KsAt at x y;obtain⟨v,r,e,_⟩:=x;rw[y]at e;cases e
 |vs,t::ts,u::us,x,y=>by
  unfold KsAt at x y;obtain⟨v,r,rfl,x1,a⟩:=x;obtain⟨c,r',e,y1,b⟩:=y;cases e;rw[KAt.det x1 y1,KsAt.det a b]
end
theorem KsAt.len{h:Heap}:∀ {vs:List Value} {ts:List KT},KsAt h vs ts->vs.length=ts.length
 |vs,[],x=>by unfold KsAt at x;rw[x];rfl
 |vs,t::ts,x=>by
  unfold KsAt at x;obtain⟨v,r,rfl,_,a⟩:=x;rw[zq,zq,KsAt.len a]
theorem KsAt.get{h:Heap}:∀ {vs:List Value} {ts:List KT} {j:Nat} {v:Value},KsAt h vs ts->vs[j]?=some v->∃t,ts[j]?=some t/\KAt h v t
 |vs,[],j,v,x,e=>by
  unfold KsAt at x;rw[x]at e;cases e
 |vs,t::ts,0,v,x,e=>by
  unfold KsAt at x;obtain⟨b,r,rfl,x1,_⟩:=x;cases e;exact⟨t,rfl,x1⟩
 |vs,t::ts,j+1,v,x,e=>by
  unfold KsAt at x;obtain⟨b,r,rfl,_,a⟩:=x;exact KsAt.get (j:=j) a e
section
variable(prog:Program)(w:World)
mutual
noncomputable def KT.hash:KT->Int
 | .lf k=>(aL prog w).hash k
 | .tp ts=>reduceHash (Builtin.Tuple.tupleHashOf (KTs.hash ts))
noncomputable def KTs.hash:List KT->List Int
 | []=> []
 |t::ts=>KT.hash t::KTs.hash ts
end
end
mutual
noncomputable def KT.draws:KT->Nat
 | .lf _=>1
 | .tp ts=>KTs.draws ts+1
noncomputable def KTs.draws:List KT->Nat
 | []=>0
 |t::ts=>KT.draws t+KTs.draws ts
end
theorem kq(prog:Program)(w:World):∀(a b:List KT),KTs.hash prog w (a++b)=KTs.hash prog w a++KTs.hash prog w b
 | [],b=>by simp[KTs.hash]
 |t::a,b=>by simp[KTs.hash,kq prog w a b]
theorem iO:∀(a b:List KT),KTs.draws (a++b)=KTs.draws a+KTs.draws b
 | [],b=>by simp[KTs.draws]
 |t::a,b=>by simp[KTs.draws,iO a b,Nat.add_assoc]
section
variable{prog:Program}{w:World}
theorem uY:∀(n:Nat) {A:Around} {E:Value->Shared->Prop} {s:Shared} {t:KT} {v:Value} {Q:Int->Shared->Prop},t.depth<=n->A.units+n < cLine->KAt s.heap v t->Q (t.hash prog w) {s with toks:=s.toks+t.draws}->wpAny (model prog w) A (pyHash v) Q E s:=by
 intro n
 induction n with
 |zero=>
  intro A E s t v Q hd hu hk h
  cases t with
  |tp ts=>simp[KT.depth]at hd
  |lf k=>
   unfold KAt at hk;simp only[KT.hash,KT.draws]at h;exact(aL prog w).pyHash hk h
 |succ n j=>
  intro A E s t v Q hd hu hk h
  cases t with
  |lf k=>
   unfold KAt at hk;simp only[KT.hash,KT.draws]at h;exact(aL prog w).pyHash hk h
  |tp ts=>
   unfold KAt at hk;refine hZq fun q_ e_=>?_;obtain⟨a,o,items,m,rfl,g,c,d,r⟩:=hk;subst e_;have ty:s.TypeIs (.ref a) "tuple":=⟨o,g,c⟩
   have p:KTs.depth ts<=n:=by
    unfold KT.depth at hd;omega
   simp only[KT.hash,KT.draws]at h;unfold pyHash;unfold pyHashByItsType;refine wpAny_bind (wpAny_cRoomFor_or (.inr (by omega)) (wpAny_bind (wpAny_specialOf ty F.slot_tuple_hash.lookup ?_)))
   show wpAny _ _ (if (some (Value.builtin "tuple.__hash__")==some Value.none)=true then _ else _) _ _ _;rw[if_neg (fun z=>by rw[beq_builtin_none]at z;cases z)]
   refine wpAny_bind (wpAny_specialOf ty F.slot_tuple_hash.lookup ?_);show wpAny _ _ (do let y<-callSpecialIfBoundUnlessNone? (.ref a) "__hash__" _;_) _ _ _
   refine wpAny_bind (wpAny_callSpecialIfBoundUnlessNone?_slot ty F.slot_tuple_hash (wpAny_call_entry F.slot_tuple_hash ty F.entry_tuple_hash ?_ (F.args_tuple_hash_1 _)));show wpAny _ _ (do let y<-Builtin.Tuple.tupleItemsOf (.ref a);_) _ _ _
   refine wpAny_bind (wpAny_tupleItemsOf g d (wpAny_bind ?_));rw[<-Array.forIn_toList];refine wpAny_forIn_list _ (fun rest (b:Array Int) s'=>∃done left,ts=done++left/\KsAt s.heap rest left/\b.toList=KTs.hash prog w done/\s'= {s with toks:=s.toks+KTs.draws done}) _ ?_ ?_ _ _ ⟨[],ts,rfl,r,rfl,by simp[KTs.draws]⟩
   . intro x rest b s' z_;refine hZq fun q_ e_=>?_;obtain⟨done,left,rfl,hl,hb,rfl⟩:=z_;subst e_
     cases left with
     |nil=>
      unfold KsAt at hl;cases hl
     |cons t left=>
      unfold KsAt at hl;refine hZq fun q_ e_=>?_;obtain⟨v,l,e,h1,h2⟩:=hl;subst e_;cases e
      have dt:t.depth<=n:=by
       have:=eA (show t∈done++t::left by simp)
       omega
      refine wpAny_bind (j (s:= {s with toks:=s.toks+KTs.draws done}) dt (by first|(show A.units+1+n < cLine;omega)|(show A.units+n < cLine;omega)) h1 ?_)
      have fin:∃f i,done++t::left=f++i/\KsAt s.heap rest i/\(b.push (KT.hash prog w t)).toList=KTs.hash prog w f/\({s with toks:=s.toks+KTs.draws done+t.draws}:Shared)= {s with toks:=s.toks+KTs.draws f}:=by
       refine⟨done++ [t],left,by simp,h2,by rw[kq,Array.toList_push,hb];simp[KTs.hash],?_⟩
       rw[iO];simp[KTs.draws,Nat.add_assoc]
      first
       |exact wpAny_pure fin
       |exact wpAny_bind (wpAny_pure (wpAny_pure fin))
   . intro b s' z_;refine hZq fun q_ e_=>?_;obtain⟨done,left,rfl,hl,hb,rfl⟩:=z_;subst e_
     cases left with
     |cons t left=>
      unfold KsAt at hl;refine hZq fun q_ e_=>?_;obtain⟨v,l,e,_⟩:=hl;subst e_;cases e
     |nil=>
      rw[List.append_nil]at h;show wpAny _ _ (retInt (Builtin.Tuple.tupleHashOf b.toList)) _ _ _;rw[hb];refine wpAny_ret_mkInt ?_;show wpAny _ _ (if (decide (-(2:Int)^63<=Builtin.Tuple.tupleHashOf (KTs.hash prog w done))&&decide (Builtin.Tuple.tupleHashOf (KTs.hash prog w done) < 2^63))=true then _ else _) _ _ _;unfold reduceHash at h;by_cases hr:(decide (-(2:Int)^63<=Builtin.Tuple.tupleHashOf (KTs.hash prog w done))&&decide (Builtin.Tuple.tupleHashOf (KTs.hash prog w done) < 2^63))=true
      . rw[if_pos hr]at h ⊢;exact wpAny_pure (by simpa [Nat.add_assoc]using h)
      . rw[if_neg hr]at h ⊢;exact wpAny_bind (wpAny_rule (wpAny_pure (by simpa [Nat.add_assoc]using h)))
end
open PySem PySem.Spec PyProof.Rows L2
theorem vk{ts us:List KT}:((List.range (min ts.length us.length)).all (fun j=>decide (ts[j]?=us[j]?))&&ts.length==us.length)=decide (ts=us):=by
 by_cases h:ts=us
 . subst h;simp
 . rw[decide_eq_false h];by_cases hl:ts.length=us.length
   . have:∃j,j < ts.length/\ts[j]?≠us[j]?:=by
      refine Classical.byContradiction fun n=>h (AO fun j=>?_);by_cases a:j < ts.length
      . exact Classical.byContradiction fun z=>n ⟨j,a,z⟩
      . rw[A8 (by omega),A8 (by omega)]
     obtain⟨j,a,ne⟩:=this;rw[Bool.and_eq_false_iff];left;refine List.all_eq_false.mpr ⟨j,zZ.mpr (by omega),?_⟩
     simp[ne]
   . rw[Bool.and_eq_false_iff];right;simp[hl]
theorem yU:∀(n:Nat) {A:Around} {s:Shared} {t u:KT} {a b:Value},t.depth<=n->A.units+n+1 < cLine->KAt s.heap a t->KAt s.heap b u->SeqAt.EqAt A s a b (decide (t=u)):=by
 intro n
 induction n with
 |zero=>
  intro A s t u a b hd hu h1 h2
  cases t with
  |tp ts=>simp[KT.depth]at hd
  |lf k=>
   unfold KAt at h1
   cases u with
   |lf j=>
    unfold KAt at h2;intro prog w E Q q;refine(aL prog w).eqBool h1 h2 ?_;have e:decide (k=j)=decide (KT.lf k=KT.lf j):=by simp
    rw[e];exact q
   |tp us=>
    unfold KAt at h2;obtain⟨r,o,items,m,rfl,g,c,d,_⟩:=h2;rw[decide_eq_false (by intro z;cases z)]
    rcases aF h1 with⟨i,t,rfl,rfl⟩|⟨x,t,rfl,rfl⟩
    . exact SeqAt.EqAt.int_tuple i t (items:=items) ⟨o,g,c,m,d⟩ (by omega)
    . exact SeqAt.EqAt.str_tuple x t (items:=items) ⟨o,g,c,m,d⟩ (by omega)
 |succ n ih=>
  intro A s t u a b hd hu h1 h2
  cases t with
  |lf k=>
   unfold KAt at h1
   cases u with
   |lf j=>
    unfold KAt at h2;intro prog w E Q q;refine(aL prog w).eqBool h1 h2 ?_;have e:decide (k=j)=decide (KT.lf k=KT.lf j):=by simp
    rw[e];exact q
   |tp us=>
    unfold KAt at h2;obtain⟨r,o,items,m,rfl,g,c,d,_⟩:=h2;rw[decide_eq_false (by intro z;cases z)]
    rcases aF h1 with⟨i,t,rfl,rfl⟩|⟨x,t,rfl,rfl⟩
    . exact SeqAt.EqAt.int_tuple i t (items:=items) ⟨o,g,c,m,d⟩ (by omega)
    . exact SeqAt.EqAt.str_tuple x t (items:=items) ⟨o,g,c,m,d⟩ (by omega)
  |tp ts=>
   have h:=h1;have l:=h2;unfold KAt at h1;obtain⟨r,o,items,m,rfl,g,c,d,k1⟩:=h1
   cases u with
   |lf j=>
    unfold KAt at h2;rw[decide_eq_false (by intro z;cases z)]
    rcases aF h2 with⟨i,t,rfl,rfl⟩|⟨x,t,rfl,rfl⟩
    . exact SeqAt.EqAt.tuple_int i t (items:=items) ⟨o,g,c,m,d⟩ (by omega)
    . exact SeqAt.EqAt.tuple_str x t (items:=items) ⟨o,g,c,m,d⟩ (by omega)
   |tp us=>
    unfold KAt at h2;obtain⟨r',o',f,m',rfl,g',c',d',k2⟩:=h2;by_cases z:r=r'
    . subst z;rw[decide_eq_true (KAt.det h l)];exact SeqAt.EqAt.same _
    . have ac:KTs.depth ts<=n:=by
       unfold KT.depth at hd;omega
      have l1:=k1.len;have l2:=k2.len
      have:=SeqAt.RcAt.tuples (A:=A) (e:=fun j=>decide (ts[j]?=us[j]?)) (show s.heap.IsTuple r items from⟨o,g,c,m,d⟩) (show s.heap.IsTuple r' f from⟨o',g',c',m',d'⟩) (by omega) fun j g1 g2=>by
       obtain⟨t1,e1,a1⟩:=k1.get (j:=j) (v:=items[j]) (by rw[A5];simp[g1])
       obtain⟨t2,e2,a2⟩:=k2.get (j:=j) (v:=f[j]) (by rw[A5];simp[g2])
       have e:decide (ts[j]?=us[j]?)=decide (t1=t2):=by rw[e1,e2];simp
       rw[e];refine ih (A:=A.in1) ?_ (by show A.units+1+n+1 < cLine;omega) a1 a2
       have:=eA (za e1);omega
      have p:items.size=ts.length:=by rw[<-l1,zO]
      have y:f.size=us.length:=by rw[<-l2,zO]
      rw[p,y,vk]at this;have e:decide (KT.tp ts=KT.tp us)=decide (ts=us):=by simp
      rw[e];exact SeqAt.EqAt.of_refs z this
theorem rl:∀(n:Nat) {prog:Program} {w:World} {A:Around} {E:Value->Shared->Prop} {s:Shared} {t:KT} {v:Value} {Q:Bool->Shared->Prop},KAt s.heap v t->t.depth<=n->Q true s->wpAny (model prog w) A (eqIsQuiet n v) Q E s:=by
 have f:∀(n:Nat) {prog:Program} {w:World} {A:Around} {E:Value->Shared->Prop} {s:Shared} {k:Key} {v:Value} {Q:Bool->Shared->Prop},fV k v=true->Q true s->wpAny (model prog w) A (eqIsQuiet n v) Q E s:=by
  intro n prog w A E s k v Q h q;rw[eqIsQuiet_byValue _ ((aL prog w).byValue k v h)];exact wpAny_pure q
 intro n
 induction n with
 |zero=>
  intro prog w A E s t v Q h hd q
  cases t with
  |tp ts=>simp[KT.depth]at hd
  |lf k=>
   unfold KAt at h;exact f 0 h q
 |succ n l=>
  intro prog w A E s t v Q h hd q
  cases t with
  |lf k=>
   unfold KAt at h;exact f _ h q
  |tp ts=>
   unfold KAt at h;obtain⟨a,o,items,m,rfl,g,c,d,r⟩:=h;have ty:s.TypeIs (.ref a) "tuple":=⟨o,g,c⟩
   have j:KTs.depth ts<=n:=by
    unfold KT.depth at hd;omega
   unfold eqIsQuiet;refine wpAny_bind (wpAny_specialOf ty F.slot_tuple_eq.lookup ?_);show wpAny _ _ (do let y<-isInstance (.ref a) (.type "tuple");_) _ _ _
   refine wpAny_bind (wpAny_isInstance ty isSubtype_tuple_tuple ?_);simp only[Bool.not_true,if_false,Ag];refine wpAny_bind (wpAny_seqItems g d (wpAny_bind ?_));show wpAny _ _ (forIn items _ _) _ _ _;rw[<-Array.forIn_toList];refine wpAny_forIn_list _ (fun rest b s'=>b.1=none/\s'=s/\∃left,KsAt s.heap rest left/\KTs.depth left<=n) _ ?_ ?_ _ _ ⟨rfl,rfl,ts,r,j⟩
   . rintro x rest b s' ⟨hb,rfl,left,hl,i⟩
     cases left with
     |nil=>
      unfold KsAt at hl;cases hl
     |cons t left=>
      unfold KsAt at hl;obtain⟨v,p,e,h1,h2⟩:=hl;cases e;unfold KTs.depth at i;refine wpAny_bind (l h1 (by omega) ?_)
      simp only[Bool.not_true,if_false,Ag];exact wpAny_pure ⟨rfl,rfl,left,h2,by omega⟩
   . rintro⟨b1,b2⟩ s' ⟨hb,rfl,_⟩;simp only at hb;subst hb;exact wpAny_pure q
noncomputable def treeKind(prog:Program)(w:World):HeapKind prog w (List KT) where
 is:=fun h ts a=>KAt h (.ref a) (.tp ts)/\(KT.tp ts).depth<=8
 hash:=fun ts=>(KT.tp ts).hash prog w
 draws:=fun ts=>(KT.tp ts).draws
 room:=fun A=>A.units+20 < cLine
 inj:=fun x y=>by
  have:=KAt.det x.1 y.1;injection this
 keeps:=fun{h h' k a d o es ep} x g hd sb=>⟨x.1.keep fun b ob items n e dt=>by
  have ne:b≠d:=fun z=>by
   subst z;rw[g]at e;cases e;rw[hd]at dt;cases dt
  exact(sb.2 b ne).trans e,x.2⟩
 pyHash:=fun hu x q=>uY 8 x.2 (by omega) x.1 q
 eqBool:=fun{A E s x y a b Q} hu hx hy q=>by
  refine yU 8 (t:= .tp x) (u:= .tp y) hx.2 (by omega) hx.1 hy.1 prog w E Q ?_
  have e:decide (KT.tp x=KT.tp y)=decide (x=y):=by simp
  rw[e];exact q
 quiet:=fun x q=>rl 8 x.1 x.2 q
end Tk
namespace L2
section
open PySem
variable{prog:Program}{w:World}{A:Around}{R:Result->Shared->Prop}{s:Shared}
theorem i9{elt target iter:Expr}{ifs:List Expr}{scope:Scope}{pos:Pos}{it acc:Value}{env:Env}(I:Nat->Shared->Prop)(turn:∀n s,I n s->wpAny (model prog w) A (pyNext it) (fun r s₁=>match r with
  |none=>R (.ok .next) s₁
  |some v=>wpAny (model prog w) A (letOwnedTupleGo target it v) (fun _ s₁'=>wpAny (model prog w) A (assign target env v) (fun _ s₂=>
   wpAny (model prog w) A (forIn ifs true fun c r=>if r=true then do let ok<-isTrue c env (eval c env);pure (ForInStep.yield ok)else pure (ForInStep.yield r)) (fun ok s₃=>
    if ok=true then wpAny (model prog w) A (eval elt env) (fun x s₄=>
     wpAny (model prog w) A (call (.builtin "list.append") [acc,x]) (fun _ s₅=>∃m,m < n/\I m s₅) (fun _ _=>False) s₄) (fun _ _=>False) s₃
    else∃m,m < n/\I m s₃) (fun _ _=>False) s₂) (fun _ _=>False) s₁') (fun _ _=>False) s₁) (fun _ _=>False) s)(n:Nat)(h:I n s):codeAny (model prog w) A (.compLoop (.ListComp elt [⟨target,iter,ifs,0⟩] scope pos) 0 it acc env) R s:=by
 refine codeAny_loop rfl I (fun n s i=>?_) n h;show wpAny _ A ((compTurn (.ListComp elt [⟨target,iter,ifs,0⟩] scope pos) 0 it acc env).onRaise (fun x=>do noteFrame x env;theTreesLotGoes x)) _ _ s
 refine wpAny_noted ?_;rw[compTurn_list];refine wpAny_bind (wpAny_standAt (wpAny_bind (wpAny_mono (turn n s i) (fun r s₁ d=>?_) fun _ _ z=>z.elim)))
 cases r with
 |none=>exact wpAny_pure d
 |some v=>
  refine wpAny_bind (wpAny_mono d (fun _ s₁' a=>?_) fun _ _ z=>z.elim);refine wpAny_bind (wpAny_mono a (fun _ s₂ g=>wpAny_bind (wpAny_mono g (fun ok s₃ b=>?_) fun _ _ z=>z.elim)) fun _ _ z=>z.elim)
  cases ok with
  |false=>exact wpAny_pure ⟨rfl,b⟩
  |true=>
   exact wpAny_bind (wpAny_bind (wpAny_mono b (fun x s₄ f=>wpAny_bind (wpAny_mono f (fun _ s₅ e=>wpAny_pure (wpAny_pure ⟨rfl,e⟩)) fun _ _ z=>z.elim)) fun _ _ z=>z.elim))
noncomputable def c7(names:List (Str×NameKind))(cells:List (Str×Addr)):List (Str×Addr)->List (Str×Addr):=match names with
 | []=>fun cs=>cs
 |(n,k)::r=>fun cs=>c7 r cells (if (k== .free)=true then(n,(cells.lookup n).getD 0)::cs else cs)
noncomputable def bK(names:List (Str×NameKind))(cells:List (Str×Addr)):Bool:=names.all fun y=> !(y.2== .free) ||(cells.lookup y.1).isSome
theorem jH(env:Env):∀(names:List (Str×NameKind)) (cs:List (Str×Addr)),bK names env.cells=true->
 (forIn names cs fun(x:Str×NameKind) (r:List (Str×Addr))=>match x with
  |(name,kind)=>if (kind==NameKind.free)=true then do let __do_lift<-cellOf env name;pure (ForInStep.yield ((name,__do_lift)::r))else pure (ForInStep.yield r):Sem (List (Str×Addr)))=pure (c7 names env.cells cs)
 | [],cs,_=>rfl
 |(n,k)::r,cs,h=>by
  unfold bK at h;rw[List.all_cons,Az]at h;rw[List.forIn_cons];unfold c7;by_cases hk:(k==NameKind.free)=true
  . rw[if_pos hk];dsimp only;rw[if_pos hk]
    have h1:(env.cells.lookup n).isSome=true:=by
     have:=h.1;rw[hk]at this;simpa using this
    obtain⟨c,hc⟩:=Option.isSome_iff_exists.mp h1;have e:cellOf env n=pure c:=by unfold cellOf;rw[hc]
    rw[e,hc];exact jH env r _ h.2
  . rw[if_neg hk];dsimp only;rw[if_neg hk];exact jH env r _ h.2
theorem gj{scope:Scope}{env:Env}(h:bK scope.names env.cells=true):closureFor scope env=pure (c7 scope.names env.cells []):=by
 unfold closureFor;have:=jH env scope.names [] h;simp only[bind_pure];exact this
theorem kH{cells:List (Str×Addr)}:∀(names:List (Str×NameKind)) (cs:List (Str×Addr)),bK names cells=true->(∀y c,cs.lookup y=some c->cells.lookup y=some c)->∀y c,(c7 names cells cs).lookup y=some c->cells.lookup y=some c
 | [],cs,_,hc,y,c,e=>hc y c e
 |(n,k)::r,cs,h,hc,y,c,e=>by
  unfold bK at h;rw[List.all_cons,Az]at h;refine kH r _ h.2 (fun z d q=>?_) y c e;by_cases hk:(k==NameKind.free)=true
  . rw[if_pos hk,Ab]at q
    cases b:(z==n)with
    |true=>
     rw[b]at q
     have h1:(cells.lookup n).isSome=true:=by
      have:=h.1;rw[hk]at this;simpa using this
     obtain⟨i,a⟩:=Option.isSome_iff_exists.mp h1;have f:z=n:=by simpa using b
     rw[f,a];have g:some ((cells.lookup n).getD 0)=some d:=q;rw[a]at g;exact g
    |false=>
     rw[b]at q;exact hc z d q
  . rw[if_neg hk]at q;exact hc z d q
theorem iR{cells:List (Str×Addr)}:∀(names:List (Str×NameKind)) (cs:List (Str×Addr)) (y:Str),(∃c,cs.lookup y=some c)->∃c,(c7 names cells cs).lookup y=some c
 | [],cs,y,h=>h
 |(n,k)::r,cs,y,h=>by
  refine iR r _ y ?_;by_cases hk:(k==NameKind.free)=true
  . rw[if_pos hk,Ab]
    cases a:(y==n)with
    |true=>exact⟨_,rfl⟩
    |false=>exact h
  . rw[if_neg hk];exact h
theorem ig{cells:List (Str×Addr)}:∀(names:List (Str×NameKind)) (cs:List (Str×Addr)) (y:Str),(y,NameKind.free)∈names->∃c,(c7 names cells cs).lookup y=some c
 | [],_,y,h=>by cases h
 |(n,k)::r,cs,y,h=>by
  rcases zc.mp h with e|h
  . obtain⟨e1,e2⟩:=Prod.mk.inj e;subst e1;subst e2;unfold c7;refine iR r _ y ?_;rw[if_pos (show(NameKind.free==NameKind.free)=true from rfl),Ab];have:(y==y)=true:=by simp
    rw[this];exact⟨_,rfl⟩
  . exact ig r _ y h
end
open PySem PySem.Spec PyProof.Rows
noncomputable abbrev XC(X:Cx)(scope:Scope)(NC:List Str)(C:Addr)(s:Shared)(H:Hp)(fp:List Addr)(pn:List (Addr×Obj)):Cx:=
 {X with N:=NC,s₀:=s,H₀:=H,env:=compEnvC scope (c7 scope.names X.env.cells []) C X.env,outer:=X.stack,stack:=X.stack,ex:=fp,fn:=fun _=>false,pn:=pn,xe:=fun _ _=>False}
noncomputable def subS(mp:List (Option Nat))(σ:St):St:=mp.map fun o=>match o with
 |some i=>(σ[i]?).getD none
 |none=>none
noncomputable def gZ(N NC:List Str)(mp:List (Option Nat))(names outer:List (Str×NameKind)):Bool:=(List.range mp.length).all fun j=>match mp[j]? with
 |some (some i)=>(match NC[j]?,N[i]? with
  |some y,some z=>y==z&&names.lookup y==some NameKind.free&& (outer.lookup y==some NameKind.cell ||outer.lookup y==some NameKind.free)
  |_,_=>false)
 |_=>true
theorem rX{N NC:List Str}{mp:List (Option Nat)}{names outer:List (Str×NameKind)}(h:gZ N NC mp names outer=true){j i:Nat}(e:mp[j]?=some (some i)):∃y,NC[j]?=some y/\N[i]?=some y/\names.lookup y=some .free/\(outer.lookup y=some .cell\/outer.lookup y=some .free):=by
 unfold gZ at h;rw[List.all_eq_true]at h;have a:j < mp.length:=(zb.mp e).1;have:=h j (zZ.mpr a);rw[e]at this;dsimp only at this;split at this
 . rename_i y z e1 e2;simp only[Az,Bool.or_eq_true,beq_iff_eq]at this;obtain⟨⟨rfl,h2⟩,h3⟩:=this;exact⟨y,e1,e2,h2,h3⟩
 . cases this
def PTs(X:Cx)(ifs:List Expr)(t:TT):Prop:=
 ∀(pins:List (Addr×Obj)) (s:Shared) (σ:St) (H:Hp) (Q:Bool->Hp->Prop),Inv X pins σ H s->t σ H Q->
  wpAny (model X.prog X.w) X.A (forIn ifs true fun c r=>if r=true then do let ok<-isTrue c X.env (eval c X.env);pure (ForInStep.yield ok)else pure (ForInStep.yield r)) (TP X pins σ Q) X.xe s
def cY:TT:=fun _ H Q=>Q true H
theorem aZ{X:Cx}:PTs X [] cY:=fun _ _ σ H Q I h=>wpAny_tests_nil ⟨H,I,h⟩
theorem cz{X:Cx}{c:Expr}{t:TT}(hc:PT X c t):PTs X [c] t:=fun pins s σ H Q I h=>wpAny_tests_one (hc pins s σ H Q I h)
def Ext(σ σ':St):Prop:=∀(j:Nat) (v:V),σ[j]?=some (some v)->σ'[j]?=some (some v)
theorem ext1{o:Option V}{r:St}:Ext (none::r) (o::r)
 |0,v,e=>by cases (ze (show some (none:Option V)=some (some v)from e))
 |j+1,v,e=>e
theorem ext2{o p:Option V}{r:St}:Ext (none::none::r) (o::p::r)
 |0,v,e=>by cases (ze (show some (none:Option V)=some (some v)from e))
 |1,v,e=>by cases (ze (show some (none:Option V)=some (some v)from e))
 |j+2,v,e=>e
def cq(mp:List (Option Nat))(wi:TI)(g:TG)(tc:TT)(te:TE):TE:=fun σ H Q=>wi σ H fun J H1=>∀D,H1 D=none->
 ∃W:Nat->Nat->List V->Hp->Prop,(∃m,W 0 m [] (upd H1 D (.lst [])))/\∀i m acc H2,W i m acc H2->
  (J.stop i H2/\Q (.ref D) H2)\/
  (J.go i H2/\∀x H3,J.yld i H2 x H3->g x (subS mp σ) H3 fun σ4 H4=>Ext (subS mp σ) σ4/\tc σ4 H4 fun b H5=>if b=true then te σ4 H5 fun v H6=>H6 D=some (.lst acc)/\acc.length < sizeLine/\∃m',m' < m/\W (i+1) m' (acc++ [v]) (upd H6 D (.lst (acc++ [v])))
   else∃m',m' < m/\W (i+1) m' acc H5)
open PySem PySem.Spec PyProof.Rows
theorem cu{env:Env}:∀ {names:List (Str×NameKind)} {x:Str},names.lookup x=some .free->
 (names.map fun(n,k)=>if (k==NameKind.free&&env.scope.kind== .function&&env.kindOf n==some .cell)then(n,NameKind.cell)else(n,k)).lookup x=some .cell\/
 (names.map fun(n,k)=>if (k==NameKind.free&&env.scope.kind== .function&&env.kindOf n==some .cell)then(n,NameKind.cell)else(n,k)).lookup x=some .free
 | [],_,h=>by simp at h
 |(n,k)::r,x,h=>by
  have a:= @cu env r x;show List.lookup x ((if (k==NameKind.free&&env.scope.kind== .function&&env.kindOf n==some .cell)=true then(n,NameKind.cell)else(n,k))::_)=_\/List.lookup x ((if (k==NameKind.free&&env.scope.kind== .function&&env.kindOf n==some .cell)=true then(n,NameKind.cell)else(n,k))::_)=_
  cases hx:x==n with
  |true=>
   simp only[Ab,hx]at h;cases h;by_cases hc:(NameKind.free==NameKind.free&&env.scope.kind== .function&&env.kindOf n==some .cell)=true
   . rw[if_pos hc];left;simp only[Ab,hx]
   . rw[if_neg hc];right;simp only[Ab,hx]
  |false=>
   simp only[Ab,hx]at h;by_cases hc:(k==NameKind.free&&env.scope.kind== .function&&env.kindOf n==some .cell)=true
   . rw[if_pos hc];simp only[Ab,hx];exact a h
   . rw[if_neg hc];simp only[Ab,hx];exact a h
theorem fO{env:Env}:∀ {names:List (Str×NameKind)} {x:Str},(∀y∈names,y.2≠ .cell)->
 ((names.map fun(n,k)=>if (k==NameKind.free&&env.scope.kind== .function&&env.kindOf n==some .cell)then(n,NameKind.cell)else(n,k)).lookup x=some .cell\/
 (names.map fun(n,k)=>if (k==NameKind.free&&env.scope.kind== .function&&env.kindOf n==some .cell)then(n,NameKind.cell)else(n,k)).lookup x=some .free)->(x,NameKind.free)∈names
 | [],_,_,h=>by simp at h
 |(n,k)::r,x,hn,h=>by
  have c:= @fO env r x (fun y hy=>hn y (z5 _ hy));have b:k≠ .cell:=hn (n,k) z6;rw[zj]at h;dsimp only at h
  cases hx:x==n with
  |true=>
   have a:x=n:=by simpa using hx
   subst a;by_cases hc:(k==NameKind.free&&env.scope.kind== .function&&env.kindOf x==some .cell)=true
   . have:k= .free:=by
      have:=hc;rw[Az,Az]at this;simpa using this.1.1
     rw[this];exact z6
   . rw[if_neg hc,Ab,hx]at h;rcases h with h|h
     . exact absurd (ze h) b
     . cases (ze h);exact z6
  |false=>
   refine z5 _ (c ?_);by_cases hc:(k==NameKind.free&&env.scope.kind== .function&&env.kindOf n==some .cell)=true
   . rw[if_pos hc,Ab,hx]at h;exact h
   . rw[if_neg hc,Ab,hx]at h;exact h
section
variable{X:Cx}{pins:List (Addr×Obj)}{σ:St}{H:Hp}{s:Shared}
theorem Inv.block{scope:Scope}{NC:List Str}{mp:List (Option Nat)}{fp:List Addr}{h1:Heap}{tk:Nat}{m:Str->Option Value}(I:Inv X pins σ H s)(hf:∀b∈fp,FpOk X pins H b)(hlt:∀b∈fp,b < s.heap.objs.size)(hk:scope.kind= .function)(hnc:∀y∈scope.names,y.2≠ .cell)(hc:bK scope.names X.env.cells=true)(hl:mp.length=NC.length)(hm:gZ X.N NC mp scope.names X.env.scope.names=true)(kp:∀b o,s.heap.get? b=some o->h1.get? b=some o)(hn:h1.Ns s.heap.objs.size m):
 Inv (XC X scope NC s.heap.objs.size s H fp (X.pn++pins)) [] (subS mp σ) H {s with heap:=h1,toks:=tk}:=by
 have sub:=kH (cells:=X.env.cells) scope.names [] hc (fun y c e=>by cases e)
 have lt:∀b o,s.heap.get? b=some o->b≠s.heap.objs.size:=fun b o e=>zp (Heap.lt_size e)
 have h:∀b,b≠X.env.locals->b∉X.fs->b∉frs X.stack:=fun b h1 h2 z=>by
  rcases zc.mp (I.stkSub b z)with e|e
  . exact h1 e
  . exact h2 e
 refine⟨⟨I.ok.mod,hk,I.ok.glob,I.ok.blt,z4 _,fun x y c e1 e2=>I.ok.inj x y c (sub x c e1) (sub y c e2),fun x hx=>?_,(fun _ _ z=>by cases z),I.ok.hd,I.ok.frames, .inl rfl,fun b hb=>?_,fun b o e=>?_,zh I.ok.bsz I.sz,fun b o e hb=>?_,fun b hb=>?_,I.stack,I.stkFree⟩,
  rfl,I.bare,Un.kept kp,⟨m,hn,fun j y v e1 e2 e3=>?_⟩,fun y c e=>?_,I.hok.fresh (z4 _),fun y c e=>I.freeC y c (sub y c e),fun p hp=>?_,I.hok.kept kp,?_⟩
 . exact ig scope.names [] x (fO hnc hx)
 . obtain⟨f0,f1,f2,n,r,f5⟩:=hf b hb;exact⟨zp (hlt b hb),fun x c e=>r x c (sub x c e)⟩
 . obtain⟨h1,h2⟩:=I.bs b o e;exact⟨h1,h2⟩
 . obtain⟨f0,f1,f2,n,r,f5⟩:=hf b hb;rcases n with z|z
   . exact I.ok.noex b o e z
   . exact absurd (zt (Heap.lt_size e) (zh I.ok.bsz z)) (AH _)
 . obtain⟨f0,f1,f2,n,r,f5⟩:=hf b hb;exact h b f1 f2
 ·
  unfold subS at e2;rw[z7]at e2
  cases q:mp[j]? with
  |none=>rw[q]at e2;cases e2
  |some o=>
   rw[q]at e2
   cases o with
   |none=>cases e2
   |some i=>
    have a:some ((σ[i]?).getD none)=some (some v):=e2;obtain⟨z,y1,y2,y3,f⟩:=rX hm q;have yz:y=z:=ze ((show NC[j]?=some y from e1).symm.trans y1);subst yz
    have e4:σ[i]?=some (some v):=by
     cases w:σ[i]? with
     |none=>rw[w]at a;cases a
     |some t=>rw[w]at a;exact a
    obtain⟨m0,aT,aC⟩:=I.loc;obtain⟨c,l⟩:=ig (cells:=X.env.cells) scope.names [] y (PySem.mem_of_lookup y3);have af:=sub y c l;have ac:Vis X.env.scope y:= .inr f;obtain⟨u,ru,lk⟩:=aC i y v y2 e4 ac;refine⟨u,ru, .inr ⟨cu y3,c,l,?_⟩⟩;rcases lk with⟨k1,_⟩|⟨_,c',k2,k3⟩
    . have g:X.env.scope.names.lookup y=some .local:=k1;rcases f with f|f<;>(rw[f]at g;cases g)
    . rw[af]at k2;cases k2;obtain⟨oc,d,k⟩:=k3;exact⟨oc,kp _ _ d,k⟩
 . obtain⟨v,oc,d,k⟩:=I.cell y c (sub y c e);exact⟨v,oc,kp _ _ d,k⟩
 . have au:p∈X.pn++pins:=by simpa using hp
   obtain⟨d,k,q3,q4,q5⟩:=I.pin p au;exact⟨kp _ _ d,k,lt _ _ d,h _ q3 q4,q5⟩
 . show(subS mp σ).length=NC.length;unfold subS;rw[yY,hl]
variable{elt target iter:Expr}{ifs:List Expr}{scope:Scope}{NC:List Str}{mp:List (Option Nat)}{pos:Pos}{wi:TI}{g:TG}{tc:TT}{te:TE}
theorem aQ(hcalm:X.calm=true)(hi:PI X target iter wi)(hg:∀C s H fp pn,PG (XC X scope NC C s H fp pn) target g)(ht:∀C s H fp pn,PTs (XC X scope NC C s H fp pn) ifs tc)(he:∀C s H fp pn,PE (XC X scope NC C s H fp pn) elt te)(hl:mp.length=NC.length:=by rfl)(hm:gZ X.N NC mp scope.names X.env.scope.names=true:=by rfl)(hc:bK scope.names X.env.cells=true:=by rfl)(hk:scope.kind= .function:=by rfl)(hnc:∀y∈scope.names,y.2≠ .cell:=by decide +kernel)(hnm:∀y∈scope.names,y.2= .local->scope.names.lookup y.1=some .local:=by decide +kernel)(hs:∀x,foldedSetIterable iter X.env x=pure x:=by intro _;rfl):
 PE X (.ListComp elt [⟨target,iter,ifs,0⟩] scope pos) (cq mp wi g tc te):=by
 intro pins s σ H Q I h;rw[eval_ListComp];refine wpAny_comprehension_free (use:=none) rfl hs (gj hc) hk hnm (thn (hi pins s σ H _ I h) fun v s1 h1=>thn h1 fun c3 f h2=>?_);refine hZq fun q_ e_=>?_;obtain⟨it,fp,tn,J,H2,e,I2,T,a3,f2,W⟩:=h2;subst e_;subst e;refine wpAny_newObj_type ?_ (by show 0<=sizeLine;decide)
 have nD:H2 f.heap.objs.size=none:=I2.hok.fresh (z4 _)
 have I3:Inv X pins σ (upd H2 f.heap.objs.size (.lst [])) {f with heap:=f.heap.push {cls:= .type "list",data:= .seq ([]:List Value).toArray}}:=
  I2.laid (t':=f.toks) (fun b u e=>Heap.get?_push_of_some _ e) (z4 _) ⟨by show 0<=sizeLine;decide,[],0, .nil,Heap.get?_push_size _ rfl⟩
 refine hZq fun q_ e_=>?_;obtain⟨W,⟨m0,w0⟩,turn⟩:=W _ nD;subst e_
 have bg:∀b∈fp,b < f.heap.objs.size:=fun b hb=>by
  obtain⟨o,e,_⟩:=T.obj 0 _ a3 b hb;exact Heap.lt_size e
 have bY:∀b∈fp,b≠f.heap.objs.size:=fun b hb=>zp (bg b hb)
 have f3:∀b∈fp,FpOk X pins (upd H2 f.heap.objs.size (.lst [])) b:=fun b hb=>by
  obtain⟨g0,g1⟩:=f2 b hb;exact⟨by rw[ag (bY b hb)];exact g0,g1⟩
 have bi:tn 0 (f.heap.push {cls:= .type "list",data:= .seq ([]:List Value).toArray}):=T.keep 0 _ _ a3 fun b _ o e=>Heap.get?_push_of_some _ e
 have aC:∀b∈fp,b < (f.heap.push {cls:= .type "list",data:= .seq ([]:List Value).toArray}).objs.size:=fun b hb=>by
  rw[Heap.size_push];exact Ai (bg b hb)
 generalize hD:f.heap.objs.size=D at*;generalize bF:({f with heap:=f.heap.push {cls:= .type "list",data:= .seq ([]:List Value).toArray}}:Shared)=a at*;have b8:a.heap=f.heap.push {cls:= .type "list",data:= .seq ([]:List Value).toArray}:=by rw[<-bF]
 rw[<-b8]at bi aC;generalize cI:upd H2 D (.lst [])=H3 at*;refine wpAny_newFunctionEnv (around:=some X.env) hnc (by intro y hy;cases hy) (fun h4 bT a2=>?_) hk
 have a5:∀b o,a.heap.get? b=some o->h4.get? b=some o:=fun b o e=>a2.extBut b o (zp (Heap.lt_size e)) (Heap.get?_push_of_some _ e);have I4:=I3.block (tk:=a.toks+([]:List (Str×Value)).length) f3 aC hk hnc hc hl hm a5 bT;have bj:tn 0 h4:=T.keep 0 _ _ bi fun b _ o e=>a5 b o e
 have fin:∀(t:Shared) (σ5:St) (H5:Hp),Inv (XC X scope NC a.heap.objs.size a H3 fp (X.pn++pins)) [] σ5 H5 t->Q (.ref D) H5->compPost (model X.prog X.w) X.A X.xe none (EP X pins σ Q) (.ref D) a.heap.objs.size (.ok .next) t:=by
  intro t σ5 H5 I5 q5;obtain⟨m5,cb,_⟩:=id I5.loc;refine⟨m5,cb,fun h6 bw=>⟨.ref D,H5,?_,rfl,q5⟩⟩;have ac:∀b o,b≠a.heap.objs.size->t.heap.get? b=some o->h6.get? b=some o:=fun b o hb e=>bw.extBut b o hb e;have nC:∀b o,a.heap.get? b=some o->b≠a.heap.objs.size:=fun b o e=>zp (Heap.lt_size e);have un:Un (frs X.stack) fp H3 H5 a.heap t.heap:=I5.base;have j:H5 a.heap.objs.size=none:=I5.free;refine I3.call' (s':= {t with heap:=h6}) (ch:=fp) I5.os ⟨fun b o e n hb hx=>ac b o (nC b o e) (un.keep b o e n hb hx),fun b o e n hb hx=>?_,un.free,fun b o e hx=>?_,un.tups,un.frzs,un.tbls⟩ ?_ I5.bare (fun b hb=>?_)
  . obtain⟨sl,e1⟩:=un.slot b o e n hb hx;exact⟨sl,ac b _ (nC b o e) e1⟩
  . obtain⟨o',e1⟩:=un.there b o e hx;exact⟨o',ac b o' (nC b o e) e1⟩
  . intro b o e;have nb:b≠a.heap.objs.size:=fun z=>by rw[z,j]at e;cases e
    refine(I5.hok b o e).stay (fun c v bB r=>ac c v ?_ r) (fun _ r=>r) fun _ _ r=>r;rcases bB with z|z
    . rw[z];exact nb
    . intro y;rw[y,j]at z;cases z
  . refine hZq fun q_ e_=>?_;obtain⟨g0,g1,g2,g3,g4,g5⟩:=f3 b hb;subst e_;exact⟨g3,g1,g4,g5⟩
 have loop:codeAny (model X.prog X.w) X.A (.compLoop (.ListComp elt [⟨target,iter,ifs,0⟩] scope pos) 0 (.ref it) (.ref D) (compEnvC scope (c7 scope.names X.env.cells []) a.heap.objs.size X.env)) (compPost (model X.prog X.w) X.A X.xe none (EP X pins σ Q) (.ref D) a.heap.objs.size)
  {a with heap:=h4,toks:=a.toks+([]:List (Str×Value)).length}:=by
  refine i9 (fun n s'=>∃i acc σ' H',Inv (XC X scope NC a.heap.objs.size a H3 fp (X.pn++pins)) [] σ' H' s'/\Ext (subS mp σ) σ'/\tn i s'.heap/\(∀b∈fp,H' b=none)/\W i n acc H') ?_ m0
   ⟨0,[],subS mp σ,H3,I4,fun _ _ e=>e,bj,fun b hb=>(f3 b hb).1,w0⟩
  intro n t z_;refine hZq fun q_ e_=>?_;obtain⟨i,acc,σ5,H5,I5,hσ,a7,a6,w5⟩:=z_;subst e_;have a4:Inv (XC X scope NC a.heap.objs.size a H3 fp (X.pn++pins)) [] (subS mp σ) H5 t:=I5.weak (by rw[I5.len];unfold subS;rw[yY];exact hl) hσ
  have au:∀ {H':Hp},(∀b∈fp,H' b=none)->∀b∈fp,FpOk (XC X scope NC a.heap.objs.size a H3 fp (X.pn++pins)) [] H' b:=fun hn b hb=>by
   refine hZq fun q_ e_=>?_;obtain⟨g0,g1,g2,g3,g4,g5⟩:=f3 b hb;subst e_;refine⟨hn b hb,zp (aC b hb),?_, .inl hb,(I4.ok.exf b hb).2,fun p hp=>g5 p (by simpa using hp)⟩
   exact I4.ok.exfs b hb
  rcases turn i n acc H5 w5 with⟨stop,q⟩|⟨go,step⟩
  . refine thn (T.done (XC X scope NC a.heap.objs.size a H3 fp (X.pn++pins)) rfl rfl rfl hcalm i [] t _ H5 (fun _ _=>False) a4 (au a6) a7 stop) fun r s6 ⟨hr,I6⟩=>?_;subst hr;exact fin s6 _ H5 I6 q
  . refine thn (T.item (XC X scope NC a.heap.objs.size a H3 fp (X.pn++pins)) rfl rfl rfl hcalm i [] t _ H5 (fun _ _=>False) a4 (au a6) a7 go) fun r s6 ⟨u,hr,h6⟩=>?_;subst hr;refine thn h6 fun _ s7 ⟨x,H7,I7,r7,y7,aT,cd⟩=>?_;have b6:=I7.pinned (au cd) (T.obj _ _ aT);refine thn (hg _ _ _ _ _ _ s7 _ H7 x u _ b6 r7 (step x H7 y7)) fun _ s8 ⟨σ8,H8,I8,af,q8⟩=>?_;refine thn (ht _ _ _ _ _ _ s8 σ8 H8 _ I8 q8) fun ok s9 ⟨H9,I9,q9⟩=>?_
    have again:∀ {σ':St} {H':Hp} {s':Shared} {k:List V} {m':Nat},Inv (XC X scope NC a.heap.objs.size a H3 fp (X.pn++pins)) ([]++dy fp s7.heap) σ' H' s'->Ext (subS mp σ) σ'->m' < n->W (i+1) m' k H'->
     ∃m,m < n/\∃i acc σ' H',Inv (XC X scope NC a.heap.objs.size a H3 fp (X.pn++pins)) [] σ' H' s'/\Ext (subS mp σ) σ'/\tn i s'.heap/\(∀b∈fp,H' b=none)/\W i m acc H':=by
     intro σ' H' s' k m' I' bx l w';refine⟨m',l,i+1,k,σ',H',I'.unpinned,bx,T.keep _ _ _ aT fun b hb o e=>(I'.pin (b,o) (zm _ (zm _ (ba hb e)))).1,fun b hb=>?_,w'⟩;obtain⟨o,e,d⟩:=T.obj _ _ aT b hb;exact(I'.pin (b,o) (zm _ (zm _ (ba hb e)))).2.1
    cases ok with
    |false=>
     rw[if_neg zo]at q9;rw[if_neg zo];obtain⟨m',l,w'⟩:=q9;exact again I9 af l w'
    |true=>
     rw[if_pos rfl]at q9;rw[if_pos rfl];refine thn (he _ _ _ _ _ _ s9 σ8 H9 _ I9 q9) fun v b7 ⟨y,bb,bI,bR,a1,hz,m',l,w'⟩=>?_;refine thn (cB (X:=XC X scope NC a.heap.objs.size a H3 fp (X.pn++pins)) _ b7 σ8 bb (.ref D) [y] (.ref D) [v] (fun _ H'=>H'=upd bb D (.lst (acc++ [y]))) bI rfl (.cons bR .nil) ⟨D,acc,y,rfl,rfl,a1,hz,rfl⟩) fun _ c2 ⟨_,cp,cm,_,bC⟩=>?_;subst bC;exact again cm af l w'
 exact codeAny_compStart_list loop (T.self _ 0 _ _ _ bj loop)
end
open PySem PySem.Spec PyProof.Rows
section
variable{X:Cx}{pins:List (Addr×Obj)}{σ:St}{H:Hp}{s:Shared}
theorem o0{h h':Heap}{a b:Addr}{m:Str->Option Value}(hn:h.Ns a m)(sb:Heap.SameBut b h h')(ne:a≠b):h'.Ns a m:=by
 obtain⟨o,es,ep,ho,r⟩:=hn;exact⟨o,es,ep,(sb.2 a ne).trans ho,r⟩
variable{elt target iter:Expr}{ifs:List Expr}{scope:Scope}{NC:List Str}{mp:List (Option Nat)}{pos spos:Pos}{wi:TI}{g:TG}{tc:TT}{te:TE}{i:Nat}{x:Str}{px:Pos}
theorem gc(hcalm:X.calm=true)(hN:X.N.Nodup)(hix:X.N[i]?=some x)(hx:X.env.scope.names.lookup x=some .local)(hsw:swapsWith (.ListComp elt [⟨target,iter,ifs,0⟩] scope pos) (some (.Name x px)) spos.line X.env=pure true)(hi:PI X target iter wi)(hg:∀C s H fp pn,PG (XC X scope NC C s H fp pn) target g)(ht:∀C s H fp pn,PTs (XC X scope NC C s H fp pn) ifs tc)(he:∀C s H fp pn,PE (XC X scope NC C s H fp pn) elt te)(hl:mp.length=NC.length:=by rfl)(hm:gZ X.N NC mp scope.names X.env.scope.names=true:=by rfl)(hc:bK scope.names X.env.cells=true:=by rfl)(hk:scope.kind= .function:=by rfl)(hnc:∀y∈scope.names,y.2≠ .cell:=by decide +kernel)(hnm:∀y∈scope.names,y.2= .local->scope.names.lookup y.1=some .local:=by decide +kernel)(hs:∀x,foldedSetIterable iter X.env x=pure x:=by intro _;rfl):
 PS X (.Assign [.Name x px] (.ListComp elt [⟨target,iter,ifs,0⟩] scope pos) spos) (tAsg (cq mp wi g tc te) (aJ i)):=by
 intro pins s σ H Z I h;rw[exec_Assign_Name_used _ _ _ _ hsw];refine wpAny_bind (wpAny_standAt (wpAny_bind ?_));show wpAny _ _ (do let _<-comprehension (.ListComp elt [⟨target,iter,ifs,0⟩] scope pos) scope X.env _ (newList []) false (eval iter X.env) (some (assign (.Name x px) X.env))) _ _ s
 refine wpAny_bind (wpAny_mono (wpAny_comprehension_free (use:=some (assign (.Name x px) X.env)) (Q:=fun _ s'=>SP X pins Z .next s') (E:=X.xe) rfl hs (gj hc) hk hnm
  (thn (hi pins s σ H _ I h) fun v s1 h1=>thn h1 fun d5 s2 h2=>?_)) (fun _ s' q=>wpAny_pure (wpAny_pure q)) fun _ _ e=>e)
 refine hZq fun q_ e_=>?_;obtain⟨it,fp,tn,J,H2,e,I2,T,bj,f2,W⟩:=h2;subst e_;subst e;refine wpAny_newObj_type ?_ (by show 0<=sizeLine;decide)
 have nD:H2 s2.heap.objs.size=none:=I2.hok.fresh (z4 _)
 have I3:Inv X pins σ (upd H2 s2.heap.objs.size (.lst [])) {s2 with heap:=s2.heap.push {cls:= .type "list",data:= .seq ([]:List Value).toArray}}:=
  I2.laid (t':=s2.toks) (fun b u e=>Heap.get?_push_of_some _ e) (z4 _) ⟨by show 0<=sizeLine;decide,[],0, .nil,Heap.get?_push_size _ rfl⟩
 refine hZq fun q_ e_=>?_;obtain⟨W,⟨m0,w0⟩,turn⟩:=W _ nD;subst e_
 have bI:∀b∈fp,b < s2.heap.objs.size:=fun b hb=>by
  obtain⟨o,e,_⟩:=T.obj 0 _ bj b hb;exact Heap.lt_size e
 have c2:∀b∈fp,b≠s2.heap.objs.size:=fun b hb=>zp (bI b hb)
 have f3:∀b∈fp,FpOk X pins (upd H2 s2.heap.objs.size (.lst [])) b:=fun b hb=>by
  obtain⟨g0,g1⟩:=f2 b hb;exact⟨by rw[ag (c2 b hb)];exact g0,g1⟩
 have bR:tn 0 (s2.heap.push {cls:= .type "list",data:= .seq ([]:List Value).toArray}):=T.keep 0 _ _ bj fun b _ o e=>Heap.get?_push_of_some _ e
 have a7:∀b∈fp,b < (s2.heap.push {cls:= .type "list",data:= .seq ([]:List Value).toArray}).objs.size:=fun b hb=>by
  rw[Heap.size_push];exact Ai (bI b hb)
 generalize hD:s2.heap.objs.size=D at*;generalize cb:({s2 with heap:=s2.heap.push {cls:= .type "list",data:= .seq ([]:List Value).toArray}}:Shared)=f at*;have dH:f.heap=s2.heap.push {cls:= .type "list",data:= .seq ([]:List Value).toArray}:=by rw[<-cb]
 rw[<-dH]at bR a7;generalize d3:upd H2 D (.lst [])=H3 at*;refine wpAny_newFunctionEnv (around:=some X.env) hnc (by intro y hy;cases hy) (fun h4 cI bi=>?_) hk
 have bx:∀b o,f.heap.get? b=some o->h4.get? b=some o:=fun b o e=>bi.extBut b o (zp (Heap.lt_size e)) (Heap.get?_push_of_some _ e);have I4:=I3.block (tk:=f.toks+([]:List (Str×Value)).length) f3 a7 hk hnc hc hl hm bx cI;have bT:tn 0 h4:=T.keep 0 _ _ bR fun b _ o e=>bx b o e;have nC:∀b o,f.heap.get? b=some o->b≠f.heap.objs.size:=fun b o e=>zp (Heap.lt_size e)
 have out:∀(t:Shared) (σ5:St) (H5:Hp) (h6:Heap),Inv (XC X scope NC f.heap.objs.size f H3 fp (X.pn++pins)) [] σ5 H5 t->Heap.SameBut f.heap.objs.size t.heap h6->Inv X pins σ H5 {t with heap:=h6}:=by
  intro t σ5 H5 h6 I5 bY;have a2:∀b o,b≠f.heap.objs.size->t.heap.get? b=some o->h6.get? b=some o:=fun b o hb e=>bY.extBut b o hb e;have un:Un (frs X.stack) fp H3 H5 f.heap t.heap:=I5.base;have k:H5 f.heap.objs.size=none:=I5.free;refine I3.call' (s':= {t with heap:=h6}) (ch:=fp) I5.os ⟨fun b o e n hb hx=>a2 b o (nC b o e) (un.keep b o e n hb hx),fun b o e n hb hx=>?_,un.free,fun b o e hx=>?_,un.tups,un.frzs,un.tbls⟩ ?_ I5.bare (fun b hb=>?_)
  . obtain⟨sl,e1⟩:=un.slot b o e n hb hx;exact⟨sl,a2 b _ (nC b o e) e1⟩
  . obtain⟨o',e1⟩:=un.there b o e hx;exact⟨o',a2 b o' (nC b o e) e1⟩
  . intro b o e;have nb:b≠f.heap.objs.size:=fun z=>by rw[z,k]at e;cases e
    refine(I5.hok b o e).stay (fun c v a4 r=>a2 c v ?_ r) (fun _ r=>r) fun _ _ r=>r;rcases a4 with z|z
    . rw[z];exact nb
    . intro y;rw[y,k]at z;cases z
  . refine hZq fun q_ e_=>?_;obtain⟨g0,g1,g2,g3,g4,g5⟩:=f3 b hb;subst e_;exact⟨g3,g1,g4,g5⟩
 have fin:∀(t:Shared) (σ5:St) (H5:Hp),Inv (XC X scope NC f.heap.objs.size f H3 fp (X.pn++pins)) [] σ5 H5 t->Z.nx (σ.set i (some (.ref D))) H5->compPost (model X.prog X.w) X.A X.xe (some (assign (.Name x px) X.env)) (fun _ s'=>SP X pins Z .next s') (.ref D) f.heap.objs.size (.ok .next) t:=by
  intro t σ5 H5 I5 q5;obtain⟨m5,dI,_⟩:=id I5.loc;have I6:=out t σ5 H5 t.heap I5 (.refl ..);have lC:X.env.locals≠f.heap.objs.size:=zp I3.lt;show wpAny _ _ (assign (.Name x px) X.env (.ref D)) _ _ _;refine wpAny_assign_Name (iD (X:=X) (v:= .ref D) I6 hN hix (.inl hx) rfl (fun s7 l b7=>?_) (.inr hx));obtain⟨a,cm,ha⟩:=b7
  have aC:f.heap.objs.size≠a:=by
   rcases ha with z|z
   . rw[z];exact Ne.symm lC
   . refine hZq fun q_ e_=>?_;obtain⟨v,oc,q1,_⟩:=I3.cell x a z;subst e_;exact Ne.symm (nC a oc q1)
  refine⟨m5,o0 dI cm aC,fun h8 a1=>⟨σ.set i (some (.ref D)),H5,?_,q5⟩⟩;have k:H5 f.heap.objs.size=none:=I5.free;have aT:∀b o,b≠f.heap.objs.size->s7.heap.get? b=some o->h8.get? b=some o:=fun b o hb e=>a1.extBut b o hb e;have au:∀b o,X.s₀.heap.get? b=some o->b≠f.heap.objs.size:=fun b o e=>zp (zt (Heap.lt_size e) I3.sz);refine⟨l.ok,l.os,l.bare,⟨fun b o e n hb hx=>aT b o (au b o e) (l.base.keep b o e n hb hx),fun b o e n hb hx=>?_,l.base.free,fun b o e hx=>?_,l.base.tups,l.base.frzs,l.base.tbls⟩,?_,fun y c e=>?_,l.free,l.freeC,fun p hp=>?_,?_,l.len⟩
  . obtain⟨sl,e1⟩:=l.base.slot b o e n hb hx;exact⟨sl,aT b _ (au b o e) e1⟩
  . obtain⟨o',e1⟩:=l.base.there b o e hx;exact⟨o',aT b o' (au b o e) e1⟩
  . obtain⟨m7,db,dj⟩:=l.loc
    have a6:∀y c,X.env.cells.lookup y=some c->c≠f.heap.objs.size:=fun y c e=>by
     refine hZq fun q_ e_=>?_;obtain⟨v,oc,q1,_⟩:=I3.cell y c e;subst e_;exact nC c oc q1
    refine⟨m7,o0 db a1 lC,fun j y v e1 e2 e3=>?_⟩;obtain⟨u,ru,lk⟩:=dj j y v e1 e2 e3;refine⟨u,ru,?_⟩;rcases lk with lk|⟨k1,c,k2,k3⟩
    . exact .inl lk
    . exact .inr ⟨k1,c,k2,k3.sameBut a1 (a6 y c k2)⟩
  . refine hZq fun q_ e_=>?_;obtain⟨w',z⟩:=l.cell y c e;obtain⟨v,oc,q1,_⟩:=I3.cell y c e;subst e_;exact⟨w',z.sameBut a1 (nC c oc q1)⟩
  . refine hZq fun q_ e_=>?_;obtain⟨e,n1,n2,n3,n4⟩:=l.pin p hp;obtain⟨e3,_⟩:=I3.pin p hp;subst e_;exact⟨aT _ _ (nC _ _ e3) e,n1,n2,n3,n4⟩
  . intro b o e;have nb:b≠f.heap.objs.size:=fun z=>by rw[z,k]at e;cases e
    refine(l.hok b o e).stay (fun c v a4 r=>aT c v ?_ r) (fun _ r=>r) fun _ _ r=>r;rcases a4 with z|z
    . rw[z];exact nb
    . intro y;rw[y,k]at z;cases z
 have loop:codeAny (model X.prog X.w) X.A (.compLoop (.ListComp elt [⟨target,iter,ifs,0⟩] scope pos) 0 (.ref it) (.ref D) (compEnvC scope (c7 scope.names X.env.cells []) f.heap.objs.size X.env)) (compPost (model X.prog X.w) X.A X.xe (some (assign (.Name x px) X.env)) (fun _ s'=>SP X pins Z .next s') (.ref D) f.heap.objs.size)
  {f with heap:=h4,toks:=f.toks+([]:List (Str×Value)).length}:=by
  refine i9 (fun n s'=>∃i acc σ' H',Inv (XC X scope NC f.heap.objs.size f H3 fp (X.pn++pins)) [] σ' H' s'/\Ext (subS mp σ) σ'/\tn i s'.heap/\(∀b∈fp,H' b=none)/\W i n acc H') ?_ m0
   ⟨0,[],subS mp σ,H3,I4,fun _ _ e=>e,bT,fun b hb=>(f3 b hb).1,w0⟩
  intro n t z_;refine hZq fun q_ e_=>?_;obtain⟨i,acc,σ5,H5,I5,hσ,bC,bB,w5⟩:=z_;subst e_;have bw:Inv (XC X scope NC f.heap.objs.size f H3 fp (X.pn++pins)) [] (subS mp σ) H5 t:=I5.weak (by rw[I5.len];unfold subS;rw[yY];exact hl) hσ
  have a5:∀ {H':Hp},(∀b∈fp,H' b=none)->∀b∈fp,FpOk (XC X scope NC f.heap.objs.size f H3 fp (X.pn++pins)) [] H' b:=fun hn b hb=>by
   refine hZq fun q_ e_=>?_;obtain⟨g0,g1,g2,g3,g4,g5⟩:=f3 b hb;subst e_;refine⟨hn b hb,zp (a7 b hb),?_, .inl hb,(I4.ok.exf b hb).2,fun p hp=>g5 p (by simpa using hp)⟩
   exact I4.ok.exfs b hb
  rcases turn i n acc H5 w5 with⟨stop,q⟩|⟨go,step⟩
  . refine thn (T.done (XC X scope NC f.heap.objs.size f H3 fp (X.pn++pins)) rfl rfl rfl hcalm i [] t _ H5 (fun _ _=>False) bw (a5 bB) bC stop) fun r s6 ⟨hr,I6⟩=>?_;subst hr;exact fin s6 _ H5 I6 q
  . refine thn (T.item (XC X scope NC f.heap.objs.size f H3 fp (X.pn++pins)) rfl rfl rfl hcalm i [] t _ H5 (fun _ _=>False) bw (a5 bB) bC go) fun r s6 ⟨u,hr,h6⟩=>?_;subst hr;refine thn h6 fun _ s7 ⟨x,H7,l,r7,y7,bb,dV⟩=>?_;have c3:=l.pinned (a5 dV) (T.obj _ _ bb);refine thn (hg _ _ _ _ _ _ s7 _ H7 x u _ c3 r7 (step x H7 y7)) fun _ s8 ⟨σ8,H8,I8,a3,q8⟩=>?_;refine thn (ht _ _ _ _ _ _ s8 σ8 H8 _ I8 q8) fun ok s9 ⟨H9,I9,q9⟩=>?_
    have again:∀ {σ':St} {H':Hp} {s':Shared} {ac:List V} {m':Nat},Inv (XC X scope NC f.heap.objs.size f H3 fp (X.pn++pins)) ([]++dy fp s7.heap) σ' H' s'->Ext (subS mp σ) σ'->m' < n->W (i+1) m' ac H'->
     ∃m,m < n/\∃i acc σ' H',Inv (XC X scope NC f.heap.objs.size f H3 fp (X.pn++pins)) [] σ' H' s'/\Ext (subS mp σ) σ'/\tn i s'.heap/\(∀b∈fp,H' b=none)/\W i m acc H':=by
     intro σ' H' s' ac m' I' b6 af w';refine⟨m',af,i+1,ac,σ',H',I'.unpinned,b6,T.keep _ _ _ bb fun b hb o e=>(I'.pin (b,o) (zm _ (zm _ (ba hb e)))).1,fun b hb=>?_,w'⟩;obtain⟨o,e,d⟩:=T.obj _ _ bb b hb;exact(I'.pin (b,o) (zm _ (zm _ (ba hb e)))).2.1
    cases ok with
    |false=>
     rw[if_neg zo]at q9;rw[if_neg zo];obtain⟨m',af,w'⟩:=q9;exact again I9 a3 af w'
    |true=>
     rw[if_pos rfl]at q9;rw[if_pos rfl];refine thn (he _ _ _ _ _ _ s9 σ8 H9 _ I9 q9) fun v c4 ⟨y,bF,cd,cp,bg,hz,m',af,w'⟩=>?_;refine thn (cB (X:=XC X scope NC f.heap.objs.size f H3 fp (X.pn++pins)) _ c4 σ8 bF (.ref D) [y] (.ref D) [v] (fun _ H'=>H'=upd bF D (.lst (acc++ [y]))) cd rfl (.cons cp .nil) ⟨D,acc,y,rfl,rfl,bg,hz,rfl⟩) fun _ d4 ⟨_,d2,d0,_,b8⟩=>?_;subst b8;exact again d0 a3 af w'
 exact codeAny_compStart_list loop (T.self _ 0 _ _ _ bT loop)
end
open PySem PySem.Spec PyProof.Rows
section
variable{κ:Type}[DecidableEq κ]
noncomputable def valV(kvs:List (κ×V))(k:κ):Option V:=(kvs.find? fun kv=>decide (kv.1=k)).map (·.2)
noncomputable def putK(kvs:List (κ×V))(k:κ)(v:V):List (κ×V):=
 if (kvs.any fun kv=>decide (kv.1=k))=true then kvs.map (fun kv=>if kv.1=k then(kv.1,v)else kv)else kvs++ [(k,v)]
theorem bq{p:κ×V}{r:List (κ×V)}{k:κ}(e:p.1=k):valV (p::r) k=some p.2:=by simp[valV,Ao,e]
theorem br{p:κ×V}{r:List (κ×V)}{k:κ}(e:¬p.1=k):valV (p::r) k=valV r k:=by simp[valV,Ao,e]
theorem dq(k:κ):∀kvs:List (κ×V),(kvs.any fun kv=>decide (kv.1=k))=(valV kvs k).isSome
 | []=>rfl
 |p::r=>by
  rw[List.any_cons];by_cases e:p.1=k
  . simp only[bq e,decide_eq_true e,Bool.true_or,Option.isSome_some]
  . rw[br e,decide_eq_false e,Bool.false_or];exact dq k r
theorem jN(k j:κ)(y:V):∀kvs:List (κ×V),valV (kvs.map fun kv=>if kv.1=k then(kv.1,y)else kv) j=(valV kvs j).map fun x=>if j=k then y else x
 | []=>rfl
 |p::r=>by
  have a:=jN k j y r;rw[zj];by_cases h:p.1=k
  . rw[if_pos h];by_cases e:p.1=j
    . rw[bq (p:=(p.1,y)) e,bq e,Option.map_some,if_pos (e.symm.trans h)]
    . rw[br (p:=(p.1,y)) e,br e,a]
  . rw[if_neg h];by_cases e:p.1=j
    . rw[bq (p:=p) e,bq e,Option.map_some,if_neg (fun z=>h (e.trans z))]
    . rw[br (p:=p) e,br e,a]
theorem iA(k j:κ)(y:V):∀kvs:List (κ×V),valV kvs k=none->valV (kvs++ [(k,y)]) j=if j=k then some y else valV kvs j
 | [],_=>by
  by_cases e:k=j
  . rw[if_pos e.symm];exact bq (p:=(k,y)) e
  . rw[if_neg (fun z=>e z.symm)];exact br (p:=(k,y)) e
 |p::r,hn=>by
  rw[zX];have hk:¬p.1=k:=fun z=>by rw[bq z]at hn;cases hn
  rw[br hk]at hn;have a:=iA k j y r hn;by_cases e:p.1=j
  . rw[bq e,bq e,if_neg (fun z=>hk (e.trans z))]
  . rw[br e,br e,a]
theorem p9(kvs:List (κ×V))(k j:κ)(y:V):valV (putK kvs k y) j=if j=k then some y else valV kvs j:=by
 unfold putK;by_cases a:(kvs.any fun kv=>decide (kv.1=k))=true
 . rw[if_pos a,jN];rw[dq]at a;by_cases e:j=k
   . obtain⟨x,hx⟩:=Option.isSome_iff_exists.mp a;rw[if_pos e,e,hx,Option.map_some,if_pos rfl]
   . rw[if_neg e]
     cases valV kvs j with
     |none=>rfl
     |some x=>rw[Option.map_some,if_neg e]
 . rw[if_neg a];refine iA k j y kvs ?_;rw[dq]at a
   cases q:valV kvs k with
   |none=>rfl
   |some x=>rw[q]at a;exact(a rfl).elim
theorem fS(kvs:List (κ×V))(k:κ)(v:V):(putK kvs k v).length<=kvs.length+1:=by
 unfold putK;split
 . rw[yY];omega
 . rw[zK,zq,List.length_nil];omega
theorem rn{kvs:List (κ×V)}{k:κ}(v:V)(h:valV kvs k=none):putK kvs k v=kvs++ [(k,v)]:=by
 unfold putK;rw[dq,h];exact if_neg (by decide)
theorem RelO.isSome_eq{o:Option V}{u:Option Value}(r:RelO o u):o.isSome=u.isSome:=by
 cases o with
 |none=>cases u with
  |none=>rfl
  |some _=>exact(show False from r).elim
 |some _=>cases u with
  |none=>exact(show False from r).elim
  |some _=>rfl
theorem RelO.getD{o:Option V}{u:Option Value}{d:V}{d':Value}(r:RelO o u)(rd:RelV d d'):RelV (o.getD d) (u.getD d'):=by
 cases o with
 |none=>cases u with
  |none=>exact rd
  |some _=>exact(show False from r).elim
 |some _=>cases u with
  |none=>exact(show False from r).elim
  |some _=>exact r
theorem KV.val{kvs:List (κ×V)}{vs:List (κ×Value)}(r:KV kvs vs)(k:κ):RelO (valV kvs k) (valueAt vs k):=by
 unfold KV at r
 induction r with
 |nil=>exact True.intro
 | @cons p q ps qs h t a=>
  obtain⟨h1,h2⟩:=h;by_cases e:p.1=k
  . have e':q.1=k:=h1.symm.trans e;have b:valueAt (q::qs) k=some q.2:=by simp[valueAt,Ao,e']
    rw[bq e,b];exact h2
  . have e':¬q.1=k:=fun z=>e (h1.trans z);have b:valueAt (q::qs) k=valueAt qs k:=by simp[valueAt,Ao,e']
    rw[br e,b];exact a
theorem KV.any{kvs:List (κ×V)}{vs:List (κ×Value)}(r:KV kvs vs)(k:κ):(kvs.any fun kv=>decide (kv.1=k))=vs.any fun kv=>decide (kv.1=k):=by
 unfold KV at r
 induction r with
 |nil=>rfl
 |cons h t a=>rw[List.any_cons,List.any_cons,a,h.1]
theorem KV.repl{kvs:List (κ×V)}{vs:List (κ×Value)}(r:KV kvs vs)(k:κ){y:V}{u:Value}(ry:RelV y u):
 KV (kvs.map fun kv=>if kv.1=k then(kv.1,y)else kv) (vs.map fun kv=>if kv.1=k then(kv.1,u)else kv):=by
 unfold KV at r ⊢
 induction r with
 |nil=>exact .nil
 | @cons p q ps qs h t a=>
  rw[zj,zj];refine .cons ?_ a;obtain⟨h1,h2⟩:=h;by_cases e:p.1=k
  . rw[if_pos e,if_pos (h1.symm.trans e)];exact⟨h1,ry⟩
  . rw[if_neg e,if_neg (fun z=>e (h1.trans z))];exact⟨h1,h2⟩
theorem KV.put{kvs:List (κ×V)}{vs:List (κ×Value)}(r:KV kvs vs)(k:κ){y:V}{u:Value}(ry:RelV y u):KV (putK kvs k y) (stored vs k u):=by
 unfold putK stored;rw[r.any k];by_cases e:(vs.any fun kv=>decide (kv.1=k))=true
 . rw[if_pos e,if_pos e];exact r.repl k ry
 . rw[if_neg e,if_neg e];exact Paired.snoc r ⟨rfl,ry⟩
theorem KV.length{kvs:List (κ×V)}{vs:List (κ×Value)}(r:KV kvs vs):kvs.length=vs.length:=Paired.length r
end
theorem nB{P:Program}{w:World}{k:Key}{u:Value}(r:RelV (kV k) u):(aL P w).is k u=true:=by
 cases k with
 |inl i=>obtain⟨t,e⟩:=(show∃t,u=Value.int i t from r);subst e;exact k8 P w i t
 |inr x=>obtain⟨t,e⟩:=(show∃t,u=Value.str x t from r);subst e;exact k7 P w x t
theorem iN{P:Program}{w:World}:∀ {ks:List Key} {us:List Value},Vals (ks.map kV) us->ItemsAre (aL P w) ks us
 | [],_,r=>by rw[AF]at r;cases r;exact .nil
 |k::ks,_,r=>by
  rw[zj]at r
  cases r with
  |cons h t=>exact .cons (nB h) (iN t)
abbrev KT(H:Hp):List (List Key×V)->List (List Key×Addr×Value)->Prop:=Paired fun p q=>p.1=q.1/\H q.2.1=some (.tup (p.1.map kV))/\RelV p.2 q.2.2
theorem KT.val{H:Hp}{kvs:List (List Key×V)}{xs:List (List Key×Addr×Value)}(r:KT H kvs xs)(k:List Key):RelO (valV kvs k) ((atKey xs k).map (·.2)):=by
 induction r with
 |nil=>exact True.intro
 | @cons p q ps qs h t a=>
  obtain⟨h1,_,h2⟩:=h;by_cases e:p.1=k
  . have e':q.1=k:=h1.symm.trans e;have b:atKey (q::qs) k=some q.2:=by simp[atKey,Ao,e']
    rw[bq e,b];exact h2
  . have e':¬q.1=k:=fun z=>e (h1.trans z);have b:atKey (q::qs) k=atKey qs k:=by simp[atKey,Ao,e']
    rw[br e,b];exact a
section
variable{P:Program}{w:World}{H:Hp}{h:Heap}{a:Addr}
theorem vE{u:HO}(ok:HOk P w H h)(e:Rd H a u):ObjOk P w H h a u:=e.ok ok
theorem tj{kvs:List (Key×V)}(ok:HOk P w H h)(e:Rd H a (.dK kvs)):kvs.length<=sizeLine/\(a==sysModules)=false/\∃vs,KV kvs vs/\h.DictOf (aL P w) a vs:=
 show ObjOk P w H h a (.dK kvs)from vE ok e
theorem nK{kvs:List (Key×V)}(ok:HOk P w H h)(e:H a=some (.dK kvs)):kvs.length<=sizeLine/\(a==sysModules)=false/\∃vs,KV kvs vs/\h.DictOf (aL P w) a vs:=tj ok (.inl e)
theorem sO{ks:List Key}(ok:HOk P w H h)(e:H a=some (.tup (ks.map kV))):(tupleKind (aL P w)).is h ks a:=by
 obtain⟨_,its,r,o,h1,h2,n,h3⟩:=(show ObjOk P w H h a (.tup (ks.map kV))from ok a _ e);exact⟨o,its.toArray,n,h1,h2,h3,by simpa using iN r⟩
theorem vN{kvs:List (List Key×V)}(ok:HOk P w H h)(e:Rd H a (.dT kvs)):kvs.length<=sizeLine/\(a==sysModules)=false/\
 ∃xs,KT H kvs xs/\h.DictOfH (tupleKind (aL P w)) a xs:=by
 obtain⟨z,y,xs,r,o,es,ep,h1,h2,h3,b,d⟩:=(show ObjOk P w H h a (.dT kvs)from vE ok e);refine⟨z,y,xs,r,o,es,ep,h1,h2,h3,b,fun x hx=>?_,d⟩
 have all:∀ {l:List (List Key×V)} {m:List (List Key×Addr×Value)},KT H l m->∀x∈m,(tupleKind (aL P w)).is h x.1 x.2.1:=by
  intro l m q
  induction q with
  |nil=>intro x hx;exact nomatch hx
  | @cons p q ps qs hq t c=>
   intro x hx;rcases zc.mp hx with e|hx
   . subst e;exact sO ok (by rw[<-hq.1];exact hq.2.1)
   . exact c x hx
 exact all r x hx
end
def DGet(H:Hp)(a:Addr)(y:V)(r:Option V):Prop:=
 (∃kvs k,Rd H a (.dK kvs)/\y=kV k/\r=valV kvs k)\/∃kvs k b,Rd H a (.dT kvs)/\y= .ref b/\H b=some (.tup (k.map kV))/\r=valV kvs k
theorem DGet.k{H:Hp}{a:Addr}{kvs:List (Key×V)}{k:Key}(e:H a=some (.dK kvs)):DGet H a (kV k) (valV kvs k):= .inl ⟨kvs,k, .inl e,rfl,rfl⟩
section
variable{X:Cx}{pins:List (Addr×Obj)}{σ:St}{H:Hp}{s:Shared}{a:Addr}{y v:V}{u r:Value}{o:Option V}{A:Around}{E:Value->Shared->Prop}
theorem Inv.big(I:Inv X pins σ H s):sysModules < s.heap.objs.size:=by
 have h:mainGlobals < s.heap.objs.size:=(I.mod.glob.keeps I.bk).lt;exact Nat.lt_trans (by decide) h
theorem fe{h':Heap}{t':Nat}{ob:HO}(I:Inv X pins σ H s)(mu:Mut (H a))(hs:Heap.SameBut a s.heap h')(he:∃q,h'.get? a=some q)(new:ObjOk X.prog X.w (upd H a ob) h' a ob):
 Inv X pins σ (upd H a ob) {s with heap:=h',toks:=t'}:=
 I.write (x:=a) (e:=a) mu (.inl rfl) (fun b q hb z=>(hs.2 b hb).trans z) he new
theorem tq{P:Program}{w:World}{H':Hp}{h':Heap}{kvs:List (Key×V)}{vs:List (Key×Value)}(z:kvs.length<=sizeLine)(hd:(a==sysModules)=false)(rel:KV kvs vs)(dd:h'.DictOf (aL P w) a vs):
 ObjOk P w H' h' a (.dK kvs):=⟨z,hd,vs,rel,dd⟩
end
section
variable{X:Cx}{pins:List (Addr×Obj)}{σ:St}{H:Hp}{s:Shared}{a:Addr}{kvs:List (Key×V)}{k:Key}{u:Value}{A:Around}{E:Value->Shared->Prop}
end
section
variable{X:Cx}{o i e value:Expr}{pos pos' tpos:Pos}{td ty tv:TE}
end
theorem kz{P:Program}{w:World}{H:Hp}(h:Heap)(hb:sysModules < h.objs.size):ObjOk P w H (h.push {cls:= .type "dict",data:= .dict #[]}) h.objs.size (.dK []):=
 ⟨zr _,beq_eq_false_iff_ne.mpr (Ne.symm (zp hb)),[], .nil,Heap.DictOf.new h⟩
def vY:TE:=fun _ H Q=>∀p,H p=none->Q (.ref p) (upd H p (.dK []))
section
variable{X:Cx}{pos:Pos}
theorem rJ:PE X (.Dict [] [] pos) vY:=fun pins s σ H Q I h=>
 wpAny_Dict_empty ⟨.ref s.heap.objs.size,_,I.laid (a:=s.heap.objs.size) (o:= .dK []) (t':=s.toks) (fun _ _ q=>Heap.get?_push_of_some _ q) (z4 _) (kz s.heap I.big),rfl,h _ (I.hok.fresh (z4 _))⟩
end
structure M2 (X:Cx) (o:Expr) (m:Str) (apos:Pos) (e f:Expr) (cpos:Pos):Prop where
 base:attributeBase o m X.env (eval o X.env)=eval o X.env
 few:((backTo cpos (starEach [e,f] X.env)).all (fun x=> !x.1)&& (backToKw cpos (keywordEach [] X.env)).all (fun x=>x.1.isSome)
  &&decide (([e,f]:List Expr).length+([]:List Keyword).length+(if ([]:List Keyword).isEmpty then 0 else 1) < 30))=true
 line:(apos.endLine==cpos.line)=true
 trees:backTo cpos (starEach [e,f] X.env)= [(false,eval e X.env),(false,eval f X.env)]
def IsD(H:Hp)(a:Addr):Prop:=(∃kvs,Rd H a (.dK kvs))\/∃kvs,Rd H a (.dT kvs)
theorem xC{X:Cx}{pins:List (Addr×Obj)}{σ:St}{H:Hp}{s:Shared}{a:Addr}(I:Inv X pins σ H s)(d:IsD H a):
 s.TypeIs (.ref a) "dict"/\(∀b,Value.ref a= .ref b->∃ob,s.heap.get? b=some ob/\ob.dict=none)/\(a==sysModules)=false:=by
 rcases d with⟨kvs,e⟩|⟨kvs,e⟩
 . obtain⟨_,hd,vs,_,dd⟩:=tj I.hok e;refine⟨dd.typeIs,fun b q=>?_,hd⟩;cases q;obtain⟨ob,_,_,h1,h2,_⟩:=dd;exact⟨ob,h1,h2.2.1⟩
 . obtain⟨_,hd,xs,_,dd⟩:=vN I.hok e;refine⟨dd.typeIs,fun b q=>?_,hd⟩;cases q;obtain⟨ob,_,_,h1,h2,_⟩:=dd;exact⟨ob,h1,h2.2.1⟩
section
variable{X:Cx}{pins:List (Addr×Obj)}{σ:St}{H:Hp}{s:Shared}{a:Addr}{y d:V}{u r:Value}{o:Option V}{A:Around}{E:Value->Shared->Prop}
theorem xL{Q:Value->Shared->Prop}(hu:A.units+1 < cLine)(I:Inv X pins σ H s)(g:DGet H a y o)(ry:RelV y u)(rd:RelV d r)(h:∀w' s',Inv X pins σ H s'->RelV (o.getD d) w'->Q w' s'):
 wpAny (model X.prog X.w) A (call (.builtin "dict.get") [.ref a,u,r]) Q E s:=by
 rcases g with⟨kvs,k,e,f,l⟩|⟨kvs,k,b,e,f,i,l⟩
 . subst f;obtain⟨z,hd,vs,c,dd⟩:=tj I.hok e;refine call_meetsIn PySem.F.slot_dict_get dd.typeIs PySem.F.entry_dict_get (PySem.F.args_dict_get_3 _ _ _) (meets_dict_get_default (aL X.prog X.w) a (nB ry) hd r) ⟨_,dd.mapOf,h _ _ (I.tok _) ?_⟩;rw[l];exact(c.val k).getD rd
 . subst f;cases (show u=Value.ref b from ry);obtain⟨z,hd,xs,c,dd⟩:=vN I.hok e;refine call_meetsIn PySem.F.slot_dict_get dd.typeIs PySem.F.entry_dict_get (PySem.F.args_dict_get_3 _ _ _) (meetsH_dict_get_default (tupleKind (aL X.prog X.w)) a b hd r) ⟨tupleKind_room_in1 hu,k,xs,sO I.hok i,dd,h _ _ (I.tok _) ?_⟩;rw[l];exact(c.val k).getD rd
end
def vZ(td ty tx:TE):TE:=fun σ H Q=>td σ H fun x H1=>∃a,x= .ref a/\IsD H1 a/\ty σ H1 fun y H2=>tx σ H2 fun z H3=>∃o,DGet H3 a y o/\Q (o.getD z) H3
section
variable{X:Cx}{o e f:Expr}{apos cpos:Pos}{td ty tx:TE}
theorem rM(hu:X.A.units+1 < cLine)(ho:PE X o td)(he:PE X e ty)(hf:PE X f tx)(m:M2 X o "get" apos e f cpos):PE X (.Call (.Attribute o "get" apos) [e,f] [] cpos) (vZ td ty tx):=by
 intro pins s σ H Q I h;refine wpAny_Call_method m.base m.few m.line PySem.F.plainAttrs_dict PySem.F.slot_dict_get PySem.F.type_dict_get (thn (ho pins s σ H _ I h) fun u s1 ⟨x,H1,c,r,a,ex,d,i⟩=>?_);subst ex;obtain rfl:u=Value.ref a:=r;obtain⟨n,t2,_⟩:=xC c d;refine⟨n,t2,?_⟩;rw[m.trees]
 refine Calls.callWith_builtin rfl (Calls.evalArgs_plain (Calls.spliced_cons (thn (he pins s1 σ H1 _ c i) fun iv k ⟨y,H2,v,l,t⟩=>
  Calls.spliced_cons (thn (hf pins k σ H2 _ v t) fun fv s3 ⟨z,H3,j,q,ov,g,p⟩=>Calls.spliced_nil ?_))))
 exact xL hu j g l q fun w' s4 w b=>⟨_,H3,w,b,p⟩
end
section
variable{X:Cx}{pins:List (Addr×Obj)}{σ:St}{H:Hp}{s:Shared}{a:Addr}{kvs:List (Key×V)}{A:Around}{E:Value->Shared->Prop}
end
section
variable{X:Cx}{pins:List (Addr×Obj)}{σ:St}{H:Hp}{s:Shared}{a:Addr}{y:V}{u:Value}{A:Around}{E:Value->Shared->Prop}
end
open PySem PySem.Spec PyProof.Rows
def kO(J:It)(D:Addr)(te:TE)(rest:L2.St)(Q:VK)(H1:Hp):Prop:=
 ∃W:Nat->Nat->List V->Hp->Prop,(∃m,W 0 m [] (upd H1 D (.lst [])))/\∀i m acc H2,W i m acc H2->
  (J.stop i H2/\Q (.ref D) H2)\/
  (J.go i H2/\∀x H3,J.yld i H2 x H3->aJ 0 x (none::rest) H3 fun σ4 H4=>Ext (none::rest) σ4/\cY σ4 H4 fun b H5=>if b=true then te σ4 H5 fun v H6=>H6 D=some (.lst acc)/\acc.length < sizeLine/\∃m',m' < m/\W (i+1) m' (acc++ [v]) (upd H6 D (.lst (acc++ [v])))
   else∃m',m' < m/\W (i+1) m' acc H5)
theorem bO{mp:List (Option Nat)}{wi:TI}{te:TE}{σ rest:L2.St}{H:Hp}{Q:VK}(e:subS mp σ=none::rest)(h:wi σ H fun J H1=>∀D,H1 D=none->kO J D te rest Q H1):cq mp wi (aJ 0) cY te σ H Q:=by
 unfold cq;rw[e];exact h
def CompN(n i:Nat)(D:Addr)(acc:List V)(Pv:Nat->List V->Hp->Prop):VK:=fun v H6=>H6 D=some (.lst acc)/\acc.length < sizeLine/\∃m',m' < n - i/\(m'=n - (i+1)/\i+1<=n/\Pv (i+1) (acc++ [v]) (upd H6 D (.lst (acc++ [v]))))
theorem CompN.mk{n i:Nat}{D:Addr}{acc:List V}{Pv:Nat->List V->Hp->Prop}{v:V}{H6:Hp}(hi:i < n)(hl:acc.length < sizeLine)(h1:H6 D=some (.lst acc))(h2:Pv (i+1) (acc++ [v]) (upd H6 D (.lst (acc++ [v])))):CompN n i D acc Pv v H6:=
 ⟨h1,hl,n - (i+1),by omega,rfl,hi,h2⟩
theorem jF{J:It}{D:Addr}{te:TE}{rest:L2.St}{Q:VK}{H1:Hp}(n:Nat)(Pv:Nat->List V->Hp->Prop)(h0:Pv 0 [] (upd H1 D (.lst [])))(hgo:∀i acc H,i < n->Pv i acc H->J.go i H)(hs:∀i x acc H H',i < n->Pv i acc H->J.yld i H x H'->te (some x::rest) H' (CompN n i D acc Pv))(hd:∀acc H,Pv n acc H->J.stop n H/\Q (.ref D) H):kO J D te rest Q H1:=by
 refine⟨fun i m acc H=>m=n - i/\i<=n/\Pv i acc H,⟨n,by simp,zr _,h0⟩,?_⟩
 rintro i m acc H ⟨rfl,hi,p⟩;by_cases a:i < n
 . refine .inr ⟨hgo i acc H a p,fun x H' y=>?_⟩;refine⟨ext1,?_⟩;show(if true=true then te (some x::rest) H' (CompN n i D acc Pv)else∃m',m' < n - i/\(m'=n - (i+1)/\i+1<=n/\Pv (i+1) acc H'));exact iteT (hs i x acc H H' a p y)
 . have e:i=n:=by omega
   subst e;exact .inl (hd acc H p)
theorem kE{K:PySem.W.Frag}{a D:Addr}{xs:List V}{te:TE}{rest:L2.St}{Q:VK}{H1:Hp}(Pv:Nat->List V->Hp->Prop)(h0:Pv 0 [] (upd H1 D (.lst [])))(hl:∀i acc H,Pv i acc H->SqT K H a xs)(hs:∀i x acc H,i < xs.length->xs[i]?=some x->Pv i acc H->te (some x::rest) H (CompN xs.length i D acc Pv))(hd:∀acc H,Pv xs.length acc H->Q (.ref D) H):kO (Itt K a) D te rest Q H1:=by
 refine jF xs.length Pv h0 (fun i acc H hi p=>⟨xs,xs[i],hl i acc H p,by simp[hi]⟩) (fun i x acc H H' hi p y=>?_) fun acc H p=>⟨⟨xs,hl _ acc H p,z4 _⟩,hd acc H p⟩
 obtain⟨e,y⟩:=y;subst e;exact hs i x acc _ hi (y xs (hl i acc _ p)) p
theorem bN{K:PySem.W.Frag}{a D:Addr}{xs:List V}{te:TE}{rest:L2.St}{Q:VK}{H1:Hp}(Pv:Nat->List V->Hp->Prop)(h0:Pv 0 [] (upd H1 D (.lst [])))(hl:∀i acc H,Pv i acc H->SqL K H a xs)(hs:∀i x acc H,i < xs.length->xs[i]?=some x->Pv i acc H->te (some x::rest) H (CompN xs.length i D acc Pv))(hd:∀acc H,Pv xs.length acc H->Q (.ref D) H):kO (Itl K a) D te rest Q H1:=by
 refine jF xs.length Pv h0 (fun i acc H hi p=>⟨xs,xs[i],hl i acc H p,by simp[hi]⟩) (fun i x acc H H' hi p y=>?_) fun acc H p=>⟨⟨xs,hl _ acc H p,z4 _⟩,hd acc H p⟩
 obtain⟨e,y⟩:=y;subst e;exact hs i x acc _ hi (y xs (hl i acc _ p)) p
theorem lT{n:Nat}{D:Addr}{te:TE}{rest:L2.St}{Q:VK}{H1:Hp}(Pv:Nat->List V->Hp->Prop)(h0:Pv 0 [] (upd H1 D (.lst [])))(hs:∀(i:Nat) acc H,i < n->Pv i acc H->te (some (.int (0+(i:Int)))::rest) H (CompN n i D acc Pv))(hd:∀acc H,Pv n acc H->Q (.ref D) H):kO (Itr 0 n) D te rest Q H1:=by
 refine jF n Pv h0 (fun i acc H hi p=>hi) (fun i x acc H H' hi p y=>?_) fun acc H p=>⟨z4 _,hd acc H p⟩;obtain⟨e,y⟩:=y;subst e y;exact hs i acc _ hi p
end L2
namespace Dj
open PySem PySem.Spec PyProof.Rows L2 Tre
def SqX(K:PySem.W.Frag)(H:Hp)(a:Addr)(xs:List V):Prop:=
 H a=some (.tup xs)\/∃(o:Obj) (its:Array Value) (n:Nat),K.lookup a=some o/\o.cls= .type "tuple"/\o.data= .seq its n/\its.size<=sizeLine/\Vals xs its.toList
theorem SqX.mono{K:PySem.W.Frag}{H H':Hp}{a:Addr}{xs:List V}(d:Kd H H')(h:SqX K H a xs):SqX K H' a xs:=h.elim (fun e=> .inl (d.tup _ _ e)) .inr
mutual
def KVt(K:PySem.W.Frag)(H:Hp):V->Tk.KT->Prop
 |v, .lf (.inl i)=>v= .int i
 |v, .lf (.inr x)=>v= .str x
 |v, .tp ts=>∃r vs,v= .ref r/\SqX K H r vs/\KVts K H vs ts
def KVts(K:PySem.W.Frag)(H:Hp):List V->List Tk.KT->Prop
 |vs,[]=>vs= []
 |vs,t::ts=>∃v r,vs=v::r/\KVt K H v t/\KVts K H r ts
end
section
variable{P:Program}{w:World}{K:PySem.W.Frag}{H H':Hp}{h:Heap}
mutual
theorem KVt.mono(d:Kd H H'):∀ {v:V} {t:Tk.KT},KVt K H v t->KVt K H' v t
 |v, .lf (.inl i),a=>by unfold KVt at a ⊢;exact a
 |v, .lf (.inr x),a=>by unfold KVt at a ⊢;exact a
 |v, .tp ts,a=>by
  unfold KVt at a ⊢;obtain⟨r,vs,e,s,q⟩:=a;exact⟨r,vs,e,s.mono d,KVts.mono d q⟩
theorem KVts.mono(d:Kd H H'):∀ {vs:List V} {ts:List Tk.KT},KVts K H vs ts->KVts K H' vs ts
 |vs,[],a=>by unfold KVts at a ⊢;exact a
 |vs,t::ts,a=>by
  unfold KVts at a ⊢;obtain⟨v,r,e,c,b⟩:=a;exact⟨v,r,e,KVt.mono d c,KVts.mono d b⟩
end
theorem wa(ok:HOk P w H h)(kin:K.In h){q:Addr}{vs:List V}(e:SqX K H q vs):∃its:List Value,Vals vs its/\∃o n,h.get? q=some o/\o.cls= .type "tuple"/\o.data= .seq its.toArray n:=by
 rcases e with e|⟨o,its,n,hk,hc,hs,hz,r⟩
 . obtain⟨_,its,rv,o,h1,h2,n,h3⟩:=(show ObjOk P w H h q (.tup vs)from ok q _ e);exact⟨its,rv,o,n,h1,h2,h3⟩
 . exact⟨its.toList,r,o,n,kin q o hk,hc,by simpa using hs⟩
mutual
theorem sQ(ok:HOk P w H h)(kin:K.In h):∀ {v:V} {t:Tk.KT} {u:Value},KVt K H v t->RelV v u->Tk.KAt h u t
 |v, .lf (.inl i),u,a,r=>by
  unfold KVt at a;subst a;obtain⟨t,rfl⟩:=r;simp only[Tk.KAt];exact iL i t
 |v, .lf (.inr x),u,a,r=>by
  unfold KVt at a;subst a;obtain⟨t,rfl⟩:=r;simp only[Tk.KAt];exact iK x t
 |v, .tp ts,u,a,r=>by
  unfold KVt at a;obtain⟨q,vs,rfl,e,as⟩:=a;obtain rfl:u=Value.ref q:=r;obtain⟨its,rv,o,n,h1,h2,h3⟩:=wa ok kin e;simp only[Tk.KAt];exact⟨q,o,its.toArray,n,rfl,h1,h2,h3,by simpa using kats_of ok kin as rv⟩
theorem kats_of(ok:HOk P w H h)(kin:K.In h):∀ {vs:List V} {ts:List Tk.KT} {us:List Value},KVts K H vs ts->Vals vs us->Tk.KsAt h us ts
 |vs,[],us,a,r=>by
  unfold KVts at a;subst a;cases r;simp[Tk.KsAt]
 |vs,t::ts,us,a,r=>by
  unfold KVts at a;obtain⟨v,q,rfl,c,b⟩:=a
  cases r with
  |cons r1 r2=>
   simp only[Tk.KsAt];exact⟨_,_,rfl,sQ ok kin c r1,kats_of ok kin b r2⟩
end
end
def KeyAt(K:PySem.W.Frag)(H:Hp)(k:List Tk.KT)(b:Addr):Prop:=∃vs,SqX K H b vs/\KVts K H vs k/\(Tk.KT.tp k).depth<=8
theorem KeyAt.mono{K:PySem.W.Frag}{H H':Hp}{k:List Tk.KT}{b:Addr}(d:Kd H H')(h:KeyAt K H k b):KeyAt K H' k b:=by
 obtain⟨ts,h1,h2,h3⟩:=h;exact⟨ts,h1.mono d,h2.mono d,h3⟩
theorem KeyAt.is{P:Program}{w:World}{K:PySem.W.Frag}{H:Hp}{h:Heap}{k:List Tk.KT}{b:Addr}(ok:HOk P w H h)(kin:K.In h)(x:KeyAt K H k b):(Tk.treeKind P w).is h k b:=by
 obtain⟨vs,h1,h2,a⟩:=x;have:=sQ ok kin (v:= .ref b) (t:= .tp k) (u:= .ref b) (by unfold KVt;exact⟨b,vs,rfl,h1,h2⟩) rfl
 exact⟨this,a⟩
abbrev Ent:=List Tk.KT×Addr×V
abbrev RE:List Ent->List (List Tk.KT×Addr×Value)->Prop:=Paired fun p q=>p.1=q.1/\p.2.1=q.2.1/\RelV p.2.2 q.2.2
noncomputable def dJ(P:Program)(w:World)(a:Addr)(kvs:List Ent):HO:= .ext fun h=>kvs.length<=sizeLine/\(a==sysModules)=false/\
 ∃xs:List (List Tk.KT×Addr×Value),RE kvs xs/\∃o es ep,h.get? a=some o/\o.ExactDict/\o.data= .dict es ep/\es.toList=xs.map (entryOfKey (Tk.treeKind P w))/\(xs.map (·.1)).Nodup
structure DJ (P:Program) (w:World) (K:PySem.W.Frag) (H:Hp) (a:Addr) (kvs:List Ent):Prop where
 at_:H a=some (dJ P w a kvs)
 keys:∀p∈kvs,KeyAt K H p.1 p.2.1
noncomputable def valJ(kvs:List Ent)(k:List Tk.KT):Option V:=(kvs.find? fun p=>decide (p.1=k)).map (·.2.2)
noncomputable def putJ(kvs:List Ent)(k:List Tk.KT)(b:Addr)(v:V):List Ent:=
 if (valJ kvs k).isSome then kvs.map (fun p=>if p.1=k then(p.1,p.2.1,v)else p)else kvs++ [(k,b,v)]
theorem jO{p:Ent}{r:List Ent}{k:List Tk.KT}(e:p.1=k):valJ (p::r) k=some p.2.2:=by simp[valJ,Ao,e]
theorem gx{p:Ent}{r:List Ent}{k:List Tk.KT}(e:¬p.1=k):valJ (p::r) k=valJ r k:=by simp[valJ,Ao,e]
theorem fT(kvs:List Ent)(k:List Tk.KT)(b:Addr)(v:V):(putJ kvs k b v).length<=kvs.length+1:=by
 unfold putJ;split
 . rw[yY];omega
 . rw[zK,zq,List.length_nil];omega
theorem RE.val{kvs:List Ent}{xs:List (List Tk.KT×Addr×Value)}(r:RE kvs xs)(k:List Tk.KT):RelO (valJ kvs k) ((atKey xs k).map (·.2)):=by
 induction r with
 |nil=>exact True.intro
 | @cons p q ps qs h t a=>
  obtain⟨h1,_,h2⟩:=h;by_cases e:p.1=k
  . have e':q.1=k:=h1.symm.trans e;have b:atKey (q::qs) k=some q.2:=by simp[atKey,Ao,e']
    rw[jO e,b];exact h2
  . have e':¬q.1=k:=fun z=>e (h1.trans z);have b:atKey (q::qs) k=atKey qs k:=by simp[atKey,Ao,e']
    rw[gx e,b];exact a
theorem RE.repl{kvs:List Ent}{xs:List (List Tk.KT×Addr×Value)}(r:RE kvs xs)(k:List Tk.KT){y:V}{u:Value}(ry:RelV y u):
 RE (kvs.map fun p=>if p.1=k then(p.1,p.2.1,y)else p) (xs.map (putAt k u)):=by
 induction r with
 |nil=>exact .nil
 | @cons p q ps qs h t a=>
  rw[zj,zj];refine .cons ?_ a;obtain⟨h1,h2,h3⟩:=h;unfold putAt;by_cases e:p.1=k
  . rw[if_pos e,if_pos (h1.symm.trans e)];exact⟨h1,h2,ry⟩
  . rw[if_neg e,if_neg (fun z=>e (h1.trans z))];exact⟨h1,h2,h3⟩
theorem RE.put{kvs:List Ent}{xs:List (List Tk.KT×Addr×Value)}(r:RE kvs xs)(k:List Tk.KT){b:Addr}{y:V}{u:Value}(ry:RelV y u):RE (putJ kvs k b y) (storedH xs k b u):=by
 have e:(valJ kvs k).isSome=(atKey xs k).isSome:=by
  rw[(r.val k).isSome_eq,Option.isSome_map]
 unfold putJ storedH;rw[e];by_cases q:(atKey xs k).isSome=true
 . rw[if_pos q,if_pos q];exact r.repl k ry
 . rw[if_neg q,if_neg q];exact Paired.snoc r ⟨rfl,rfl,ry⟩
theorem rp{kvs:List Ent}{k:List Tk.KT}{b:Addr}{v:V}{p:Ent}(h:p∈putJ kvs k b v):(∃q∈kvs,p.1=q.1/\p.2.1=q.2.1)\/(p.1=k/\p.2.1=b):=by
 unfold putJ at h;split at h
 . obtain⟨q,m,e⟩:=zJ.mp h;split at e
   . subst e;exact .inl ⟨q,m,rfl,rfl⟩
   . subst e;exact .inl ⟨q,m,rfl,rfl⟩
 . rcases zv.mp h with m|m
   . exact .inl ⟨p,m,rfl,rfl⟩
   . rw[zw.mp m];exact .inr ⟨rfl,rfl⟩
theorem Kd.updJ{P:Program}{w:World}{H:Hp}{a:Addr}{kvs:List Ent}{o:HO}(h:H a=some (dJ P w a kvs)):Kd H (upd H a o):=by
 refine⟨fun b zs e=>?_,fun b zs e=>⟨zs,?_⟩⟩
 . rw[ag (fun z=>by rw[z,h]at e;cases e)];exact e
 . rw[ag (fun z=>by rw[z,h]at e;cases e)];exact e
theorem Kd.updK{H:Hp}{a:Addr}{kvs:List (Key×V)}{o:HO}(h:H a=some (.dK kvs)):Kd H (upd H a o):=by
 refine⟨fun b zs e=>?_,fun b zs e=>⟨zs,?_⟩⟩
 . rw[ag (fun z=>by rw[z,h]at e;cases e)];exact e
 . rw[ag (fun z=>by rw[z,h]at e;cases e)];exact e
theorem DJ.put{P:Program}{w:World}{K:PySem.W.Frag}{H:Hp}{a b:Addr}{kvs:List Ent}{k:List Tk.KT}{v:V}(d:DJ P w K H a kvs)(hk:KeyAt K H k b):DJ P w K (upd H a (dJ P w a (putJ kvs k b v))) a (putJ kvs k b v):=by
 refine⟨a8,fun p m=>?_⟩;refine KeyAt.mono (Kd.updJ d.at_) ?_;rcases rp m with⟨q,c,e1,e2⟩|⟨e1,e2⟩
 . rw[e1,e2];exact d.keys q c
 . rw[e1,e2];exact hk
theorem DJ.kd{P:Program}{w:World}{K:PySem.W.Frag}{H H':Hp}{a:Addr}{kvs:List Ent}(d:DJ P w K H a kvs)(k:Kd H H')(e:H' a=some (dJ P w a kvs)):DJ P w K H' a kvs:=⟨e,fun p m=>(d.keys p m).mono k⟩
section
variable{P:Program}{w:World}{H:Hp}{h:Heap}{a:Addr}
theorem fc{K:PySem.W.Frag}{kvs:List Ent}(ok:HOk P w H h)(kin:K.In h)(d:DJ P w K H a kvs):kvs.length<=sizeLine/\(a==sysModules)=false/\∃xs,RE kvs xs/\h.DictOfH (Tk.treeKind P w) a xs:=by
 obtain⟨⟨z,y,xs,r,o,es,ep,h1,h2,h3,b,f⟩,_⟩:=(show ObjOk P w H h a (dJ P w a kvs)from ok a _ d.at_);refine⟨z,y,xs,r,o,es,ep,h1,h2,h3,b,?_,f⟩
 have all:∀ {l:List Ent} {m:List (List Tk.KT×Addr×Value)},RE l m->(∀p∈l,KeyAt K H p.1 p.2.1)->∀x∈m,(Tk.treeKind P w).is h x.1 x.2.1:=by
  intro l m q
  induction q with
  |nil=>intro _ x hx;exact nomatch hx
  | @cons p q ps qs hq t c=>
   intro kp x hx;rcases zc.mp hx with e|hx
   . subst e;rw[<-hq.1,<-hq.2.1];exact(kp p z6).is ok kin
   . exact c (fun p m=>kp p (z5 _ m)) x hx
 exact all r d.keys
theorem jz{kvs:List Ent}{xs:List (List Tk.KT×Addr×Value)}{H':Hp}{h':Heap}(z:kvs.length<=sizeLine)(y:(a==sysModules)=false)(r:RE kvs xs)(d:∃o es ep,h'.get? a=some o/\o.ExactDict/\o.data= .dict es ep/\es.toList=xs.map (entryOfKey (Tk.treeKind P w))/\(xs.map (·.1)).Nodup):ObjOk P w H' h' a (dJ P w a kvs):=by
 obtain⟨o,es,ep,h1,h2⟩:=d;refine⟨⟨z,y,xs,r,o,es,ep,h1,h2⟩,⟨o,h1⟩,?_⟩;rintro b g2 ⟨z,y,xs,r,o,es,ep,h1,h2⟩ st;exact⟨z,y,xs,r,o,es,ep,st _ h1,h2⟩
end
noncomputable def pN(P:Program)(w:World):TE:=fun _ H Q=>∀p,H p=none->Q (.ref p) (upd H p (dJ P w p []))
noncomputable def qR(P:Program)(w:World)(K:PySem.W.Frag)(td ty tv:TE):TS:=fun D σ H=>tv σ H fun v H1=>td σ H1 fun x H2=>ty σ H2 fun y H3=>∃a b k kvs,x= .ref a/\y= .ref b/\DJ P w K H3 a kvs/\KeyAt K H3 k b/\kvs.length < sizeLine/\D.nx σ (upd H3 a (dJ P w a (putJ kvs k b v)))
noncomputable def pO(P:Program)(w:World)(K:PySem.W.Frag)(td ty tx:TE):TE:=fun σ H Q=>td σ H fun x H1=>∃a kvs,x= .ref a/\DJ P w K H1 a kvs/\ty σ H1 fun y H2=>tx σ H2 fun z H3=>∃b k,y= .ref b/\DJ P w K H3 a kvs/\KeyAt K H3 k b/\Q ((valJ kvs k).getD z) H3
section
variable{X:Cx}{pos pos' apos cpos:Pos}{o i e f value:Expr}{td ty tv tx:TE}
theorem kA{P:Program}{w:World}{H:Hp}(h:Heap)(hb:sysModules < h.objs.size):ObjOk P w H (h.push {cls:= .type "dict",data:= .dict #[]}) h.objs.size (dJ P w h.objs.size []):=
 jz (zr _) (beq_eq_false_iff_ne.mpr (Ne.symm (zp hb))) .nil ⟨_, #[],0,Heap.get?_push_size _ rfl,⟨rfl,rfl,rfl⟩,rfl,rfl,AK⟩
theorem rK:PE X (.Dict [] [] pos) (pN X.prog X.w):=fun pins s σ H Q I h=>
 wpAny_Dict_empty ⟨.ref s.heap.objs.size,_,I.laid (a:=s.heap.objs.size) (o:=dJ X.prog X.w s.heap.objs.size []) (t':=s.toks) (fun _ _ q=>Heap.get?_push_of_some _ q) (z4 _) (kA s.heap I.big),rfl,h _ (I.hok.fresh (z4 _))⟩
theorem rE(hu:X.A.units+30 < cLine)(ho:PE X o td)(hi:PE X i ty)(hv:PE X value tv)(hs:swapsWith value (some (.Subscript o i pos')) pos.line X.env=pure false):
 PS X (.Assign [.Subscript o i pos'] value pos) (qR X.prog X.w X.K td ty tv):=by
 intro pins s σ H D I h;refine wpAny_Assign_Subscript (thn (hv pins s σ H _ I h) fun r s1 ⟨v,H1,t,rv,l⟩=>thn (ho pins s1 σ H1 _ t l) fun u n ⟨x,H2,I2,rx,q2⟩=>thn (hi pins n σ H2 _ I2 q2) fun iv s3 ⟨y,H3,c,ry,a,b,k,kvs,ex,p,d,m,hl,q3⟩=>?_) hs;subst ex p;obtain rfl:u=Value.ref a:=rx;obtain rfl:iv=Value.ref b:=ry;obtain⟨z,hd,xs,e,dd⟩:=fc c.hok c.kIn d;have hz:xs.length<=sizeLine:=by rw[<-Paired.length e];exact z
 have f:(putJ kvs k b v).length<=sizeLine:=by have:=fT kvs k b v;omega
 refine wpAny_setItem_heap (hsz:=hz) (by show X.A.units+1+20 < cLine;omega) (m.is c.hok c.kIn) dd fun h' g hs=>⟨σ,_,?_,q3⟩
 obtain⟨q,es,ep,hq,h2,h3,j,_,h5⟩:=g;exact fe c (by rw[d.at_];exact True.intro) hs ⟨q,hq⟩ (jz f hd (e.put k rv) ⟨q,es,ep,hq,h2,h3,j,h5⟩)
theorem rL(hu:X.A.units+30 < cLine)(ho:PE X o td)(he:PE X e ty)(hf:PE X f tx)(m:M2 X o "get" apos e f cpos):PE X (.Call (.Attribute o "get" apos) [e,f] [] cpos) (pO X.prog X.w X.K td ty tx):=by
 intro pins s σ H Q I h;refine wpAny_Call_method m.base m.few m.line PySem.F.plainAttrs_dict PySem.F.slot_dict_get PySem.F.type_dict_get (thn (ho pins s σ H _ I h) fun u s1 ⟨x,H1,i,rx,a,kvs,ex,d,l⟩=>?_);subst ex;obtain rfl:u=Value.ref a:=rx
 have g:s1.TypeIs (.ref a) "dict"/\∀b,Value.ref a= .ref b->∃ob,s1.heap.get? b=some ob/\ob.dict=none:=by
  obtain⟨_,_,xs,_,dd⟩:=fc i.hok i.kIn d;refine⟨dd.typeIs,fun b q=>?_⟩;cases q;obtain⟨ob,_,_,h1,h2,_⟩:=dd;exact⟨ob,h1,h2.2.1⟩
 refine⟨g.1,g.2,?_⟩;rw[m.trees]
 refine Calls.callWith_builtin rfl (Calls.evalArgs_plain (Calls.spliced_cons (thn (he pins s1 σ H1 _ i l) fun iv p ⟨y,H2,I2,v,q2⟩=>
  Calls.spliced_cons (thn (hf pins p σ H2 _ I2 q2) fun t s3 ⟨z,H3,c,rz,b,k,r,d3,n,q3⟩=>Calls.spliced_nil ?_))))
 subst r;obtain rfl:iv=Value.ref b:=v;obtain⟨_,hd,xs,j,dd⟩:=fc c.hok c.kIn d3;exact call_meetsIn PySem.F.slot_dict_get dd.typeIs PySem.F.entry_dict_get (PySem.F.args_dict_get_3 _ _ _) (meetsH_dict_get_default (Tk.treeKind X.prog X.w) a b hd t) ⟨by show X.A.units+1+20 < cLine;omega,k,xs,n.is c.hok c.kIn,dd,⟨_,H3,c.tok _,(j.val k).getD rz,q3⟩⟩
variable{P:Program}{w:World}{K:PySem.W.Frag}
theorem pe_newJ(hP:X.prog=P)(hw:X.w=w):PE X (.Dict [] [] pos) (pN P w):=by
 subst hP hw;exact rK
theorem ps_putJ(hP:X.prog=P)(hw:X.w=w)(hK:X.K=K)(hu:X.A.units+30 < cLine)(ho:PE X o td)(hi:PE X i ty)(hv:PE X value tv)(hs:swapsWith value (some (.Subscript o i pos')) pos.line X.env=pure false):
 PS X (.Assign [.Subscript o i pos'] value pos) (qR P w K td ty tv):=by
 subst hP hw hK;exact rE hu ho hi hv hs
theorem pe_getJ(hP:X.prog=P)(hw:X.w=w)(hK:X.K=K)(hu:X.A.units+30 < cLine)(ho:PE X o td)(he:PE X e ty)(hf:PE X f tx)(m:M2 X o "get" apos e f cpos):PE X (.Call (.Attribute o "get" apos) [e,f] [] cpos) (pO P w K td ty tx):=by
 subst hP hw hK;exact rL hu ho he hf m
end
end Dj
namespace Tre
open PySem L2
theorem gH{x y:Str}(h:x.cps.toList=y.cps.toList):x=y:=by
 cases x;cases y;simp only[Str.mk.injEq];exact Array.toList_inj.mp h
theorem ff{ts us:List Tr}(h:∀t∈ts,∀u∈us,code t=code u->t=u)(e:codes ts=codes us):ts=us:=by
 induction ts generalizing us with
 |nil=>cases us with
  |nil=>rfl
  |cons u us=>simp[codes]at e
 |cons t ts c=>
  cases us with
  |nil=>simp[codes]at e
  |cons u us=>
   simp only[codes,Au]at e;rw[h t z6 u z6 e.1,c (fun a ma b mb=>h a (z5 _ ma) b (z5 _ mb)) e.2]
theorem nl{x y:String}(h:(Str.ofString x).cps.toList≠(Str.ofString y).cps.toList){r s:List Co}:Co.tup (.str (Str.ofString x).cps.toList::r)=Co.tup (.str (Str.ofString y).cps.toList::s)->False:=fun e=>by
 simp only[Co.tup.injEq,Au,Co.str.injEq]at e;exact h e.1
theorem xX:∀(n:Nat) {k:So} {t u:Tr},t.depth<=n->Ty k t->Ty k u->code t=code u->t=u:=by
 intro n
 induction n with
 |zero=>
  intro k t u hd h1 h2;cases h1<;>simp[Tr.depth]at hd
 |succ n g=>
  intro k t u hd h1 h2 e
  have sub:∀ {ts:List Tr} {t:Tr},(Tr.tup ts).depth<=n+1->t∈ts->t.depth<=n:=fun h m=>by
   unfold Tr.depth at h;have:=bA m;omega
  have c:∀ {ts l:List Tr} {t:Tr},(Tr.tup ts).depth<=n+1->Tr.tup l∈ts->t∈l->t.depth<=n:=fun h m o=>by
   have h3:=sub h m;unfold Tr.depth at h3;have:=bA o;omega
  cases h1<;>cases h2<;>simp only[code,codes]at e
  all_goals first
   |exact(nl (by decide +kernel) e).elim
   |skip
  all_goals simp only[Co.tup.injEq,Au,Co.str.injEq,Co.num.injEq,and_true,true_and]at e
  . rw[gH e]
  . rename_i x ts _ h1 y us _ h2;rw[gH e.1,ff (fun a ma b mb=>g (c hd (by simp) ma) (h1 a ma) (h2 b mb)) e.2]
  . rw[e.1,e.2]
  . rename_i p r d b1 t2 j f b2;rw[g (sub hd (by simp)) d f e.1,g (sub hd (by simp)) b1 b2 e.2]
  . rw[gH e]
  . rename_i s r d b1 p2 j f b2;rw[ff (fun a ma b mb=>g (c hd (by simp) ma) (d a ma) (f b mb)) e.1,g (sub hd (by simp)) b1 b2 e.2]
  . rename_i p v d b1 t2 w f b2;rw[g (sub hd (by simp)) d f e.1,g (sub hd (by simp)) b1 b2 e.2]
  . rename_i q d i f;rw[g (sub hd (by simp)) d f e]
  . rename_i l1 d l2 f;rw[ff (fun a ma b mb=>g (c hd (by simp) ma) (d a ma) (f b mb)) e]
  . rename_i l1 d l2 f;rw[ff (fun a ma b mb=>g (c hd (by simp) ma) (d a ma) (f b mb)) e]
  . rename_i q b1 d i b2 f
    have e2:b1=b2:=by
     have:=e.2;cases b1<;>cases b2<;>simp at this ⊢
    rw[g (sub hd (by simp)) d f e.1,e2]
end Tre
namespace Wd
open PySem L2 Tre Mth Dj
def Lt2(e:Nat)(x:Int):Prop:=x.natAbs < 2^e
theorem Lt2.mono{m n:Nat}{x:Int}(h:Lt2 m x)(hn:m<=n):Lt2 n x:=zt h (Am (by decide) hn)
theorem Lt2.big{n:Nat}{x:Int}(h:Lt2 n x)(hn:n<=8000):Big x:=h.mono hn
theorem Lt2.div{e:Nat}{x y:Int}(h:Lt2 e x):Lt2 e (x / y):=zg (dk x y) h
theorem Lt2.mul{m n:Nat}{x y:Int}(h1:Lt2 m x)(h2:Lt2 n y):Lt2 (m+n) (x*y):=by
 unfold Lt2 at*;rw[zM,Nat.pow_add];exact Nat.mul_lt_mul'' h1 h2
theorem Lt2.add{m:Nat}{x y:Int}(h1:Lt2 m x)(h2:Lt2 m y):Lt2 (m+1) (x+y):=by
 unfold Lt2 at*;have:=Int.natAbs_add_le x y;rw[Nat.pow_succ];omega
abbrev Fr:=Int×Int
def frT(p:Fr):Tr:= .tup [.int p.1, .int p.2]
structure Gf (e:Nat) (p:Fr):Prop where
 pos:0 < p.2
 top:Lt2 e p.1
 bot:Lt2 e p.2
theorem Gf.mono{m n:Nat}{p:Fr}(h:Gf m p)(hn:m<=n):Gf n p:=⟨h.pos,h.top.mono hn,h.bot.mono hn⟩
def zero:Fr:=(0,1)
noncomputable def gA(p q:Fr):Fr:=(tX p.1 p.2 q.1 q.2,tY p.1 p.2 q.1 q.2)
end Wd
namespace Su
open PySem L2 Tre Mth Wd
def rv(p:Fr):Rat:=(p.1:Rat) / (p.2:Rat)
abbrev Sh(p:Fr):Prop:=im p.1 p.2
theorem ne0{b:Int}(h:0 < b):(b:Rat)≠0:=by
 simp only[ne_eq,Rat.intCast_eq_zero_iff];omega
theorem vD{p q:Fr}(h1:0 < p.2)(h2:0 < q.2):rv p=rv q↔p.1*q.2=q.1*p.2:=by
 have a:=ne0 h1;have b:=ne0 h2;unfold rv;constructor
 . intro h;have:(p.1:Rat)*q.2=q.1*p.2:=by grind
   exact_mod_cast this
 . intro h;have:(p.1:Rat)*q.2=q.1*p.2:=by exact_mod_cast h
   grind
theorem lu{p q:Fr}(h1:Sh p)(h2:Sh q)(e:rv p=rv q):p=q:=by
 rw[vD h1.1 h2.1]at e;obtain⟨a,b⟩:=p;obtain⟨c,d⟩:=q;obtain⟨b0,j⟩:=h1;obtain⟨k,g2⟩:=h2;dsimp only at*;have n1:a.natAbs*d.natAbs=c.natAbs*b.natAbs:=by rw[<-zM,<-zM,e]
 have g:Nat.Coprime b.natAbs a.natAbs:=by rw[Nat.coprime_comm];exact j
 have f:Nat.Coprime d.natAbs c.natAbs:=by rw[Nat.coprime_comm];exact g2
 have d1:b.natAbs∣d.natAbs:=g.dvd_of_dvd_mul_left ⟨c.natAbs,by rw[n1,AL]⟩
 have h:d.natAbs∣b.natAbs:=f.dvd_of_dvd_mul_left ⟨a.natAbs,by rw[<-n1,AL]⟩
 have e1:=Nat.dvd_antisymm d1 h;have e2:b=d:=by omega
 subst e2;have i:a=c:=Int.eq_of_mul_eq_mul_right (by omega) e
 rw[i]
theorem jT{p q:Fr}(h1:Sh p)(h2:Sh q):rv (gA p q)=rv p*rv q:=by
 obtain⟨s,e⟩:=pF h1 h2;have a:=ne0 h1.1;have b:=ne0 h2.1;have c:=ne0 s.1;have e':((tX p.1 p.2 q.1 q.2:Int):Rat)*(p.2*q.2)=p.1*q.1*(tY p.1 p.2 q.1 q.2:Int):=by exact_mod_cast e
 unfold rv gA;dsimp only;grind
theorem eQ:Sh zero:=⟨by decide,by decide⟩
theorem cy:rv zero=0:=by
 show((0:Int):Rat) / ((1:Int):Rat)=0;have:((0:Int):Rat)=0:=by simp
 rw[this];grind
noncomputable def low(t b:Int):Fr:=(t / (Int.gcd t b:Int),b / (Int.gcd t b:Int))
theorem e5{t b:Int}(h:0 < b):Sh (low t b):=by
 obtain⟨i,e,ex,g,d,f,c⟩:=cQ (x:=t) (y:=b) (by omega)
 unfold low;rw[f,c];have a:0 < e:=de (k:=(Int.gcd t b:Int)) (by omega) (by omega)
 exact⟨a,d⟩
theorem gP{t b:Int}(h:0 < b):rv (low t b)=(t:Rat) / (b:Rat):=by
 have s:=e5 (t:=t) h;obtain⟨a,c,ex,d,k,i,f⟩:=cQ (x:=t) (y:=b) (by omega)
 have j:0 < Int.gcd t b:=A3 t (by omega)
 unfold low at s ⊢;rw[i,f]at s ⊢
 have e:a*b=t*c:=by
  generalize ((Int.gcd t b:Nat):Int)=g at*;rw[ex,d];simp only[Int.mul_assoc,Int.mul_left_comm,AM]
 exact(vD (p:=(a,c)) (q:=(t,b)) s.1 h).mpr e
theorem jx{e:Nat}{t b:Int}(h:0 < b)(h1:Lt2 e t)(h2:Lt2 e b):Gf e (low t b):=⟨(e5 h).1,h1.div,h2.div⟩
abbrev Pq:=Tr×Fr
def prT(p:Pq):Tr:= .tup [p.1,frT p.2]
open Classical in
noncomputable def tot(t:Tr):List Pq->Rat
 | []=>0
 |p::r=>(if p.1=t then rv p.2 else 0)+tot t r
theorem dO(t:Tr)(a b:List Pq):tot t (a++b)=tot t a+tot t b:=by
 induction a with
 |nil=>simp only[AD,tot];grind
 |cons p r c=>simp only[zX,tot,c];grind
open Classical in
theorem uc(t:Tr)(p:Pq):tot t [p]=if p.1=t then rv p.2 else 0:=by
 simp only[tot];grind
theorem jQ{t:Tr}:∀ {l:List Pq},(∀p∈l,p.1≠t)->tot t l=0
 | [],_=>rfl
 |p::r,h=>by
  simp only[tot];rw[if_neg (h p z6),jQ fun q m=>h q (z5 _ m)];grind
abbrev Asc(us:List Pq):Prop:=us.Pairwise fun a b=>ltT a.1 b.1=true
theorem xg(t:Tr):ltT t t=false:=by
 cases e:ltT t t with
 |false=>rfl
 |true=>exact(ka e).symm.trans e |>.symm
theorem mY{t u:Tr}(h:ltT t u=true):t≠u:=fun z=>by
 rw[z,xg]at h;cases h
theorem uO{p q:Pq}(h:ltT p.1 q.1=true):ltT (prT p) (prT q)=true:=by
 rw[ltT_iff]at h ⊢;show LtC (.tup (code p.1::_)) (.tup (code q.1::_));simp only[LtC,LtCs];exact .inl h
theorem uR{p q:Pq}(h:ltT (prT q) (prT p)=false):ltT q.1 p.1=false:=by
 cases e:ltT q.1 p.1 with
 |false=>rfl
 |true=>rw[uO e]at h;cases h
theorem vH{t u:Tr}(h1:ltT u t=false)(h2:eqT t u=false):ltT t u=true:=by
 cases e:ltT t u with
 |true=>rfl
 |false=>rw[xi e h1]at h2;cases h2
theorem pE{t u:Tr}(h1:Ty .tm t)(h2:Ty .tm u)(h:eqT t u=true):t=u:=xX t.depth (z4 _) h1 h2 ((dL t u).mp h)
end Su
namespace L2
open PySem PySem.Spec PyProof.Rows
def ip(J:It)(D:Addr)(tc:TT)(te:TE)(rest:L2.St)(Q:VK)(H1:Hp):Prop:=
 ∃W:Nat->Nat->List V->Hp->Prop,(∃m,W 0 m [] (upd H1 D (.lst [])))/\∀i m acc H2,W i m acc H2->
  (J.stop i H2/\Q (.ref D) H2)\/
  (J.go i H2/\∀x H3,J.yld i H2 x H3->aJ 0 x (none::rest) H3 fun σ4 H4=>Ext (none::rest) σ4/\tc σ4 H4 fun b H5=>if b=true then te σ4 H5 fun v H6=>H6 D=some (.lst acc)/\acc.length < sizeLine/\∃m',m' < m/\W (i+1) m' (acc++ [v]) (upd H6 D (.lst (acc++ [v])))
   else∃m',m' < m/\W (i+1) m' acc H5)
theorem bW{mp:List (Option Nat)}{wi:TI}{tc:TT}{te:TE}{σ rest:L2.St}{H:Hp}{Q:VK}(e:subS mp σ=none::rest)(h:wi σ H fun J H1=>∀D,H1 D=none->ip J D tc te rest Q H1):cq mp wi (aJ 0) tc te σ H Q:=by
 unfold cq;rw[e];exact h
def CompS(n i:Nat)(acc:List V)(Pv:Nat->List V->Hp->Prop):Hp->Prop:=fun H5=>∃m',m' < n - i/\(m'=n - (i+1)/\i+1<=n/\Pv (i+1) acc H5)
theorem CompS.mk{n i:Nat}{acc:List V}{Pv:Nat->List V->Hp->Prop}{H5:Hp}(hi:i < n)(h:Pv (i+1) acc H5):CompS n i acc Pv H5:=⟨n - (i+1),by omega,rfl,hi,h⟩
theorem eC{K:PySem.W.Frag}{a D:Addr}{xs:List V}{tc:TT}{te:TE}{rest:L2.St}{Q:VK}{H1:Hp}(Pv:Nat->List V->Hp->Prop)(h0:Pv 0 [] (upd H1 D (.lst [])))(hl:∀i acc H,Pv i acc H->SqL K H a xs)(hs:∀i x acc H,i < xs.length->xs[i]?=some x->Pv i acc H->tc (some x::rest) H fun b H5=>if b=true then te (some x::rest) H5 (CompN xs.length i D acc Pv)else CompS xs.length i acc Pv H5)(hd:∀acc H,Pv xs.length acc H->Q (.ref D) H):ip (Itl K a) D tc te rest Q H1:=by
 refine⟨fun i m acc H=>m=xs.length - i/\i<=xs.length/\Pv i acc H,⟨xs.length,by simp,zr _,h0⟩,?_⟩
 rintro i m acc H ⟨rfl,hi,p⟩;by_cases c:i < xs.length
 . refine .inr ⟨⟨xs,xs[i],hl i acc H p,by simp[c]⟩,fun x H' y=>⟨ext1,?_⟩⟩
   obtain⟨e,y⟩:=y;subst e;exact hs i x acc _ c (y xs (hl i acc _ p)) p
 . have e:i=xs.length:=by omega
   subst e;exact .inl ⟨⟨xs,hl _ acc H p,z4 _⟩,hd acc H p⟩
end L2
namespace Zp
open PySem
inductive Src where
 |lst|tup
def Src.It(k:Src)(h:Heap)(it l:Addr)(i:Nat):Prop:=match k with
 | .lst=>h.IsListIter it l i
 | .tup=>h.IsTupleIter it l i
def Src.Sq(k:Src)(h:Heap)(l:Addr)(xs:Array Value):Prop:=match k with
 | .lst=>h.IsList l xs
 | .tup=>h.IsTuple l xs
theorem dD{k:Src}{h h':Heap}{a l:Addr}{i:Nat}(x:k.It h a l i)(e:∀o,h.get? a=some o->h'.get? a=some o):k.It h' a l i:=by
 cases k
 . exact Heap.IsListIter.at x e
 . exact Heap.IsTupleIter.at x e
theorem pX{k:Src}{h h':Heap}{l:Addr}{xs:Array Value}(x:k.Sq h l xs)(e:∀o,h.get? l=some o->h'.get? l=some o):k.Sq h' l xs:=by
 cases k
 . exact Heap.IsList.at x e
 . exact Heap.IsTuple.at x e
theorem jv{k:Src}{h:Heap}{a l:Addr}{i:Nat}(x:k.It h a l i):∃o,h.get? a=some o/\∀v,o.data≠ .cell v:=by
 cases k
 all_goals
  obtain⟨o,e,_,d⟩:=x;exact⟨o,e,fun v z=>by rw[d]at z;cases z⟩
section
variable{prog:Program}{w:World}{A:Around}{E:Value->Shared->Prop}{s:Shared}{k:Src}{it l:Addr}{i:Nat}{xs:Array Value}{x:Value}{Q:Value->Shared->Prop}
theorem mV(st:k.It s.heap it l i)(sq:k.Sq s.heap l xs)(hx:xs[i]?=some x)(q:∀h',k.It h' it l (i+1)->Heap.SameBut it s.heap h'->Q x {s with heap:=h'}):
 wpAny (model prog w) A (Builtin.SmallTypes.nextOf (.ref it)) Q E s:=by
 cases k
 . exact wpAny_nextOf_list_item st sq hx q
 . obtain⟨o,e1,e2,a⟩:=id st;obtain⟨p,c,_,n,b⟩:=sq;have ty:=Heap.IsTupleIter.typeIs st;rw[Builtin.SmallTypes.nextOf];refine wpAny_bind (wpAny_callSpecial?_slot (name:=Str.ofString "__next__") ty F.slot_tuple_iterator_next (wpAny_call_entry F.slot_tuple_iterator_next ty F.entry_tuple_iterator_next ?_ (F.args_tuple_iterator_next_1 _)));show wpAny _ _ (do let y<-field (.ref it) 0;_) _ _ s
   refine wpAny_bind (wpAny_field e1 a (x:= .ref l) rfl ?_);show wpAny _ _ (if (Value.ref l==Value.none)=true then _ else _) _ _ _;refine(if_neg (show¬((Value.ref l==Value.none)=true)from zo))▸ ?_;show wpAny _ _ (do let y<-field (.ref it) 1;_) _ _ s
   refine wpAny_bind (wpAny_field e1 a (x:= .int i 0) rfl ?_);show wpAny _ _ (do let y<-seqItems? (.ref l);_) _ _ s
   refine wpAny_bind (wpAny_seqItems c b ?_);simp only[hx,Ad];refine wpAny_bind (wpAny_setField e1 a (by simp) (wpAny_pure ⟨x,rfl,wpAny_pure (q _ ?_ (Heap.SameBut.update ..))⟩))
   refine⟨_,Heap.get?_update_self _ e1 (Obj.isFreed_of_fields (Obj.data_mapFields a _)),(Obj.cls_mapFields ..).trans e2,?_⟩;rw[Obj.data_mapFields a];simp[rawInt]
theorem xc(hh:A.handled=none)(st:k.It s.heap it l i)(sq:k.Sq s.heap l xs)(hx:xs[i]?=none)(q:∀h' e,Heap.ExtBut it s.heap h'->(∃o,h'.get? e=some o/\o.cls= .type "StopIteration")->E (.ref e) {s with heap:=h'}):
 wpAny (model prog w) A (Builtin.SmallTypes.nextOf (.ref it)) Q E s:=by
 cases k
 . exact wpAny_nextOf_list_end hh st sq hx q
 . obtain⟨o,e1,e2,b⟩:=id st;obtain⟨p,d,_,n,c⟩:=sq;have ty:=Heap.IsTupleIter.typeIs st;rw[Builtin.SmallTypes.nextOf];refine wpAny_bind (wpAny_callSpecial?_slot (name:=Str.ofString "__next__") ty F.slot_tuple_iterator_next (wpAny_call_entry F.slot_tuple_iterator_next ty F.entry_tuple_iterator_next ?_ (F.args_tuple_iterator_next_1 _)));show wpAny _ _ (do let y<-field (.ref it) 0;_) _ _ s
   refine wpAny_bind (wpAny_field e1 b (x:= .ref l) rfl ?_);show wpAny _ _ (if (Value.ref l==Value.none)=true then _ else _) _ _ _;refine(if_neg (show¬((Value.ref l==Value.none)=true)from zo))▸ ?_;show wpAny _ _ (do let y<-field (.ref it) 1;_) _ _ s
   refine wpAny_bind (wpAny_field e1 b (x:= .int i 0) rfl ?_);show wpAny _ _ (do let y<-seqItems? (.ref l);_) _ _ s
   refine wpAny_bind (wpAny_seqItems d c ?_);simp only[hx,Ad];refine wpAny_bind (wpAny_rule (wpAny_bind (wpAny_setField e1 b (by simp) ?_)))
   show wpAny _ _ (do let y<-newExc (.type "StopIteration") [];_) _ _ _
   refine wpAny_bind ?_;simp only[newTuple,newExc];refine wpAny_bind (wpAny_newObj_type (wpAny_bind (m:=firstArgMember _ _) (wpAny_of_eq (a:=Value.none) (by first|rfl|(simp only[firstArgMember];rfl)) (wpAny_newObj_type ?_ (by size_fits)))) (by size_fits))
   simp only[raiseNew];refine wpAny_bind (wpAny_handled ?_)
   first|rw[show A.in1.handled=none from hh]|rw[hh]
   exact wpAny_bind (wpAny_pure (wpAny_throw (q _ _ (((Heap.SameBut.update ..).extBut.push _).push _) ⟨_,Heap.get?_push_size _ rfl,rfl⟩)))
end
open PySem
section
variable{prog:Program}{w:World}{A:Around}{E:Value->Shared->Prop}{s:Shared}{k:Src}{z TI TO i1 i2 l1 l2:Addr}{j:Nat}{xs ys:Array Value}{x y a b:Value}
theorem tT{Q:Value->Shared->Prop}(D:ZipApart z TI TO i1 i2 l1 l2)(hz:IsZip s.heap z TI TO .none)(hI:IsPair s.heap TI (.ref i1) (.ref i2))(hO:IsPair s.heap TO a b)(t1:k.It s.heap i1 l1 j)(t2:k.It s.heap i2 l2 j)(q1:k.Sq s.heap l1 xs)(q2:k.Sq s.heap l2 ys)(ex:xs[j]?=some x)(ey:ys[j]?=some y)(q:∀h',IsZip h' z TI TO (rawInt s.heap.objs.size)->IsPair h' TO x y->k.It h' i1 l1 (j+1)->k.It h' i2 l2 (j+1)->IsPair h' s.heap.objs.size x y->h'.objs.size=s.heap.objs.size+1->
  (∀c o,c≠z->c≠TO->c≠i1->c≠i2->s.heap.get? c=some o->h'.get? c=some o)->Q (.ref s.heap.objs.size) {s with heap:=h'}):
 wpAny (model prog w) A (Builtin.«zip.__next__» ⟨[.ref z],[]⟩) (fun r s'=>∃v,r= .done (.ret v)/\Q v s') E s:=by
 show wpAny _ _ (do let u<-field (.ref z) 2;_) _ _ _
 refine wpAny_bind (wpAny_field hz rfl (x:= .bool false) rfl ?_);show wpAny _ _ (do let u<-field (.ref z) 3;_) _ _ _
 refine wpAny_bind (wpAny_field hz rfl (x:= .ref TI) rfl (wpAny_bind (wpAny_seqItems hI rfl ?_)));show wpAny _ _ (do let u<-Builtin.SmallTypes.ownedTupleIsFree (.ref z);_) _ _ _
 refine wpAny_bind ?_;rw[Builtin.SmallTypes.ownedTupleIsFree];refine wpAny_bind (wpAny_field hz rfl (x:= .none) rfl (wpAny_pure ?_));simp only[if_true];refine wpAny_bind (wpAny_rule (wpAny_bind (wpAny_field hz rfl (x:= .ref TO) rfl (wpAny_bind (wpAny_setField_rec hz (by simp) fun g1 y1 s1=>?_)))))
 have y1:IsZip g1 z TI TO .ellipsis:=y1;refine wpAny_bind ?_;simp only[List.forIn_cons,List.forIn_nil,List.zipIdx_nil,List.zipIdx_cons];refine wpAny_bind (wpAny_bind (wpAny_onRaise ?_));show wpAny _ _ (do let u<-Builtin.SmallTypes.nextOf (.ref i1);_) _ _ _
 refine wpAny_bind (mV (s:= {s with heap:=g1}) (dD t1 fun o e=>s1.extBut _ o D.i1z e) (pX q1 fun o e=>s1.extBut _ o D.l1z e) ex fun g2 u1 f=>wpAny_pure ?_);have o2:IsPair g2 TO a b:=f.extBut _ _ D.TOi1 (s1.extBut _ _ D.TOz hO);refine wpAny_bind (wpAny_seqItems o2 rfl (wpAny_bind (wpAny_updateSeq_pair (s:= {s with heap:=g2}) o2 fun g3 o3 g=>?_)));have o3:IsPair g3 TO x b:=o3;refine wpAny_bind (wpAny_letGo (wpAny_pure (wpAny_bind (wpAny_bind (wpAny_onRaise ?_)))));show wpAny _ _ (do let u<-Builtin.SmallTypes.nextOf (.ref i2);_) _ _ _
 refine wpAny_bind (mV (s:= {s with heap:=g3}) (dD t2 fun o e=>g.extBut _ o D.TOi2.symm (f.extBut _ o D.i12.symm (s1.extBut _ o D.i2z e))) (pX q2 fun o e=>g.extBut _ o D.l2TO (f.extBut _ o D.l2i1 (s1.extBut _ o D.l2z e))) ey fun g4 u2 h=>wpAny_pure ?_);have o4:IsPair g4 TO x b:=h.extBut _ _ D.TOi2 o3;refine wpAny_bind (wpAny_seqItems o4 rfl (wpAny_bind (wpAny_updateSeq_pair (s:= {s with heap:=g4}) o4 fun d m l=>?_)));have m:IsPair d TO x y:=m;refine wpAny_bind (wpAny_letGo (wpAny_pure (wpAny_pure (wpAny_bind (wpAny_seqItems m rfl (wpAny_bind (wpAny_newTuple ?_)))))));have sz:d.objs.size=s.heap.objs.size:=by rw[l.1,h.1,g.1,f.1,s1.1]
 have all:∀c o,c≠z->c≠TO->c≠i1->c≠i2->s.heap.get? c=some o->d.get? c=some o:=fun c o c1 p c3 c4 e=>l.extBut _ _ p (h.extBut _ _ c4 (g.extBut _ _ p (f.extBut _ _ c3 (s1.extBut _ _ c1 e))));have y5:IsZip d z TI TO .ellipsis:=l.extBut _ _ D.TOz.symm (h.extBut _ _ D.i2z.symm (g.extBut _ _ D.TOz.symm (f.extBut _ _ D.i1z.symm y1)));have v1:k.It d i1 l1 (j+1):=dD u1 fun o e=>l.extBut _ o D.TOi1.symm (h.extBut _ o D.i12 (g.extBut _ o D.TOi1.symm e));have v2:k.It d i2 l2 (j+1):=dD u2 fun o e=>l.extBut _ o D.TOi2.symm e;have lz:z < d.objs.size:=Heap.lt_size y5;show wpAny _ _ (do let u<-Builtin.SmallTypes.ownedTupleHandOut (.ref z) (.ref d.objs.size);_) _ _ _
 refine wpAny_bind ?_;rw[Builtin.SmallTypes.ownedTupleHandOut];have y6:IsZip (d.push {cls:= .type "tuple",data:= .seq #[x,y]}) z TI TO .ellipsis:=Heap.get?_push_of_some _ y5;refine wpAny_bind (wpAny_setField_rec y6 (by simp) fun g7 y7 s7=>?_)
 have y7:IsZip g7 z TI TO (rawInt d.objs.size):=y7;refine wpAny_setField_rec y7 (by simp) fun i t s8=>?_
 have t:IsZip i z TI TO (rawInt d.objs.size):=t;have up:∀c o,c≠z->d.get? c=some o->i.get? c=some o:=fun c o n e=>s8.extBut _ _ n (s7.extBut _ _ n (Heap.get?_push_of_some _ e));have p8:IsPair i d.objs.size x y:=s8.extBut _ _ (Nat.ne_of_gt lz) (s7.extBut _ _ (Nat.ne_of_gt lz) (Heap.get?_push_size _ rfl));have z8:i.objs.size=d.objs.size+1:=by rw[s8.1,s7.1,Heap.size_push]
 rw[sz]at t p8 z8;refine wpAny_pure ⟨_,rfl,?_⟩;show Q (.ref d.objs.size) _;rw[sz];exact q i t (up _ _ D.TOz m) (dD v1 fun o e=>up _ o D.i1z e) (dD v2 fun o e=>up _ o D.i2z e) p8 z8 fun c o c1 p c3 c4 e=>up c o c1 (all c o c1 p c3 c4 e)
theorem vQ{Q:Fin->Shared->Prop}(hh:A.handled=none)(D:ZipApart z TI TO i1 i2 l1 l2)(hz:IsZip s.heap z TI TO .none)(hI:IsPair s.heap TI (.ref i1) (.ref i2))(hO:IsPair s.heap TO a b)(t1:k.It s.heap i1 l1 j)(t2:k.It s.heap i2 l2 j)(q1:k.Sq s.heap l1 xs)(q2:k.Sq s.heap l2 ys)(ends:xs[j]?=none)(q:∀h' e,(∀c o,c≠z->c≠TO->c≠i1->c≠i2->s.heap.get? c=some o->h'.get? c=some o)->(∃o,h'.get? e=some o/\o.cls= .type "StopIteration")->E (.ref e) {s with heap:=h'}):
 wpAny (model prog w) A (Builtin.«zip.__next__» ⟨[.ref z],[]⟩) Q E s:=by
 show wpAny _ _ (do let u<-field (.ref z) 2;_) _ _ _
 refine wpAny_bind (wpAny_field hz rfl (x:= .bool false) rfl ?_);show wpAny _ _ (do let u<-field (.ref z) 3;_) _ _ _
 refine wpAny_bind (wpAny_field hz rfl (x:= .ref TI) rfl (wpAny_bind (wpAny_seqItems hI rfl ?_)));show wpAny _ _ (do let u<-Builtin.SmallTypes.ownedTupleIsFree (.ref z);_) _ _ _
 refine wpAny_bind ?_;rw[Builtin.SmallTypes.ownedTupleIsFree];refine wpAny_bind (wpAny_field hz rfl (x:= .none) rfl (wpAny_pure ?_));simp only[if_true];refine wpAny_bind (wpAny_rule (wpAny_bind (wpAny_field hz rfl (x:= .ref TO) rfl (wpAny_bind (wpAny_setField_rec hz (by simp) fun h y1 s1=>?_)))))
 have y1:IsZip h z TI TO .ellipsis:=y1;refine wpAny_bind ?_;simp only[List.forIn_cons,List.forIn_nil,List.zipIdx_nil,List.zipIdx_cons];refine wpAny_bind (wpAny_bind (wpAny_onRaise ?_));show wpAny _ _ (do let u<-Builtin.SmallTypes.nextOf (.ref i1);_) _ _ _
 refine wpAny_bind (xc (s:= {s with heap:=h}) hh (dD t1 fun o e=>s1.extBut _ o D.i1z e) (pX q1 fun o e=>s1.extBut _ o D.l1z e) ends fun g2 e d he=>?_);obtain⟨l,e1,e2⟩:=he;have f:IsZip g2 z TI TO .ellipsis:=d _ _ D.i1z.symm y1;have ne:e≠z:=fun n=>by subst n;rw[f]at e1;cases e1;simp at e2
 exact wpAny_setField_rec f (by simp) fun m _ g=>q m e (fun c o c1 _ i _ n=>g.extBut _ _ c1 (d _ _ i (s1.extBut _ _ c1 n))) ⟨l,g.extBut _ _ ne e1,e2⟩
theorem tU{Q:Option Value->Shared->Prop}(D:ZipApart z TI TO i1 i2 l1 l2)(hz:IsZip s.heap z TI TO .none)(hI:IsPair s.heap TI (.ref i1) (.ref i2))(hO:IsPair s.heap TO a b)(t1:k.It s.heap i1 l1 j)(t2:k.It s.heap i2 l2 j)(q1:k.Sq s.heap l1 xs)(q2:k.Sq s.heap l2 ys)(ex:xs[j]?=some x)(ey:ys[j]?=some y)(q:∀h',IsZip h' z TI TO (rawInt s.heap.objs.size)->IsPair h' TO x y->k.It h' i1 l1 (j+1)->k.It h' i2 l2 (j+1)->IsPair h' s.heap.objs.size x y->h'.objs.size=s.heap.objs.size+1->
  (∀c o,c≠z->c≠TO->c≠i1->c≠i2->s.heap.get? c=some o->h'.get? c=some o)->Q (some (.ref s.heap.objs.size)) {s with heap:=h'}):
 wpAny (model prog w) A (pyNext (.ref z)) Q E s:=by
 have ty:s.TypeIs (.ref z) "zip":=⟨_,hz,rfl⟩;rw[pyNext]
 exact wpAny_bind (wpAny_attempt (wpAny_callSpecial?_slot (name:=Str.ofString "__next__") ty F.slot_zip_next (wpAny_call_entry F.slot_zip_next ty F.entry_zip_next
  (tT D hz hI hO t1 t2 q1 q2 ex ey fun h' i h e f d l g=>wpAny_pure (q h' i h e f d l g)) (F.args_zip_next_1 _))))
theorem vR{Q:Option Value->Shared->Prop}(hh:A.handled=none)(D:ZipApart z TI TO i1 i2 l1 l2)(hz:IsZip s.heap z TI TO .none)(hI:IsPair s.heap TI (.ref i1) (.ref i2))(hO:IsPair s.heap TO a b)(t1:k.It s.heap i1 l1 j)(t2:k.It s.heap i2 l2 j)(q1:k.Sq s.heap l1 xs)(q2:k.Sq s.heap l2 ys)(ends:xs[j]?=none)(q:∀h',(∀c o,c≠z->c≠TO->c≠i1->c≠i2->s.heap.get? c=some o->h'.get? c=some o)->Q none {s with heap:=h'}):wpAny (model prog w) A (pyNext (.ref z)) Q E s:=by
 have ty:s.TypeIs (.ref z) "zip":=⟨_,hz,rfl⟩;rw[pyNext];refine wpAny_bind (wpAny_attempt (wpAny_callSpecial?_slot (name:=Str.ofString "__next__") ty F.slot_zip_next (wpAny_call_entry F.slot_zip_next ty F.entry_zip_next (vQ hh D hz hI hO t1 t2 q1 q2 ends fun h' e up he=>?_) (F.args_zip_next_1 _))));obtain⟨o,e1,e2⟩:=he;exact wpAny_bind (wpAny_isInstance (T:="StopIteration") (b:=true) ⟨o,e1,e2⟩ isSubtype_stop (wpAny_pure (q _ up)))
end
open PySem
abbrev zA(h:Heap)(l:Addr):Heap:=h.push {cls:= .type "tuple_iterator",data:= .fields #[.ref l, .int 0 0]}
abbrev zB(h:Heap)(l m:Addr):Heap:=zA (zA h l) m
abbrev zC(h:Heap)(l m:Addr):Heap:=(zB h l m).push {cls:= .type "tuple",data:= .seq #[.ref h.objs.size, .ref (zA h l).objs.size]}
abbrev zD(h:Heap)(l m:Addr):Heap:=(zC h l m).push {cls:= .type "tuple",data:= .seq #[.none, .none]}
abbrev zE(h:Heap)(l m:Addr):Heap:=(zD h l m).push {cls:= .type "zip",data:= .fields #[.none, .bool false, .bool false, .ref (zB h l m).objs.size, .ref (zC h l m).objs.size]}
theorem uL(l m:Addr)(xs ys:Array Value):Meets (Builtin.«zip.__new__» ⟨[.type "zip", .ref l, .ref m],[]⟩) (fun _ R s=>s.heap.IsTuple l xs/\s.heap.IsTuple m ys/\
 R (.ok (.ret (.ref (zD s.heap l m).objs.size))) {s with heap:=zE s.heap l m}):=
 .of_wp fun prog w A R s h=>by
  obtain⟨hp,g,d,tk,os⟩:=s;obtain⟨a,p2,h⟩:=h;have b:=sub_zip;have a:Heap.IsTuple (Shared.heap ⟨hp,g,d,tk,os⟩) l xs:=a;have p2:Heap.IsTuple (Shared.heap ⟨zA hp l,g,d,tk,os⟩) m ys:=Heap.IsTuple.at p2 fun o e=>Heap.get?_push_of_some _ e
  wp_walk using wpAny_pyIter_tuple a,wpAny_pyIter_tuple p2
  exact⟨_,rfl,h⟩
section
variable{prog:Program}{w:World}{A:Around}{E:Value->Shared->Prop}{s:Shared}
theorem tI{k:Src}{l m:Addr}{xs ys:Array Value}{Q:Value->Shared->Prop}(p1:k.Sq s.heap l xs)(p2:k.Sq s.heap m ys)(q:∀h',IsZip h' (s.heap.objs.size+4) (s.heap.objs.size+2) (s.heap.objs.size+3) .none->IsPair h' (s.heap.objs.size+2) (.ref s.heap.objs.size) (.ref (s.heap.objs.size+1))->
  IsPair h' (s.heap.objs.size+3) .none .none->k.It h' s.heap.objs.size l 0->k.It h' (s.heap.objs.size+1) m 0->h'.objs.size=s.heap.objs.size+5->
  (∀c o,s.heap.get? c=some o->h'.get? c=some o)->Q (.ref (s.heap.objs.size+4)) {s with heap:=h'}):
 wpAny (model prog w) A (call (.type "zip") [.ref l, .ref m]) Q E s:=by
 cases k
 . exact call_zip_2 p1 p2 q
 . refine callType_new F.called_zip (by decide) (F.typeCall_zip_2 _ _) (F.newCall_zip_2 _ _) (fun obj=>F.args_object_init_3 obj _ _) F.entry_zip_new (uL l m xs ys) ⟨p1,p2,?_⟩
   have f:(zA s.heap l).objs.size=s.heap.objs.size+1:=Heap.size_push ..;have d:(zB s.heap l m).objs.size=s.heap.objs.size+2:=by rw[Heap.size_push,f]
   have a:(zC s.heap l m).objs.size=s.heap.objs.size+3:=by rw[Heap.size_push,d]
   have b:(zD s.heap l m).objs.size=s.heap.objs.size+4:=by rw[Heap.size_push,a]
   have g:(zE s.heap l m).objs.size=s.heap.objs.size+5:=by rw[Heap.size_push,b]
   have b5:(zE s.heap l m).get? (zD s.heap l m).objs.size=some _:=Heap.get?_push_size _ rfl;have b4:(zE s.heap l m).get? (zC s.heap l m).objs.size=some _:=Heap.get?_push_of_some _ (Heap.get?_push_size _ rfl);have b3:(zE s.heap l m).get? (zB s.heap l m).objs.size=some _:=Heap.get?_push_of_some _ (Heap.get?_push_of_some _ (Heap.get?_push_size _ rfl));have b2:(zE s.heap l m).get? (zA s.heap l).objs.size=some _:=Heap.get?_push_of_some _ (Heap.get?_push_of_some _ (Heap.get?_push_of_some _ (Heap.get?_push_size _ rfl)));have b1:(zE s.heap l m).get? s.heap.objs.size=some _:=Heap.get?_push_of_some _ (Heap.get?_push_of_some _ (Heap.get?_push_of_some _ (Heap.get?_push_of_some _ (Heap.get?_push_size _ rfl))));show _/\_;rw[d,a,b]at b5;rw[f,d]at b3;rw[a]at b4;rw[f]at b2;rw[b];exact⟨⟨_,b5,rfl⟩,q _ b5 b3 b4 ⟨_,b1,rfl,rfl⟩ ⟨_,b2,rfl,rfl⟩ g fun c o e=>Heap.get?_push_of_some _ (Heap.get?_push_of_some _ (Heap.get?_push_of_some _ (Heap.get?_push_of_some _ (Heap.get?_push_of_some _ e))))⟩
end
end Zp
namespace L2
open PySem PySem.Spec PyProof.Rows Zp
def Sqk(k:Src)(K:PySem.W.Frag)(H:Hp)(a:Addr)(xs:List V):Prop:=match k with
 | .lst=>SqL K H a xs
 | .tup=>SqT K H a xs
theorem Inv.sqk{X:Cx}{pins:List (Addr×Obj)}{σ:St}{H:Hp}{s:Shared}{k:Src}{a:Addr}{xs:List V}(I:Inv X pins σ H s)(h:Sqk k X.K H a xs):∃its:List Value,Vals xs its/\k.Sq s.heap a its.toArray/\xs.length<=sizeLine:=by
 cases k
 . obtain⟨its,r,p,z⟩:=I.list h;exact⟨its,r,p.isList,z⟩
 . obtain⟨its,r,p,z⟩:=I.tuple h;exact⟨its,r,p,z⟩
theorem Inv.sqk_inj{X:Cx}{pins:List (Addr×Obj)}{σ:St}{H:Hp}{s:Shared}{k:Src}{a:Addr}{xs ys:List V}(I:Inv X pins σ H s)(h:Sqk k X.K H a xs)(h':Sqk k X.K H a ys):xs=ys:=by
 cases k
 . exact I.list_inj h h'
 . exact I.tuple_inj h h'
def Itz(k:Src)(K:PySem.W.Frag)(a b:Addr):It:=
 ⟨fun i H=>∃xs ys x y,Sqk k K H a xs/\Sqk k K H b ys/\xs[i]?=some x/\ys[i]?=some y,
  fun i H v H'=>∃T x y,v= .ref T/\H T=none/\H'=upd H T (.tup [x,y])/\(∀xs,Sqk k K H a xs->xs[i]?=some x)/\(∀ys,Sqk k K H b ys->ys[i]?=some y)/\i < sizeLine,
  fun i H=>∃xs ys,Sqk k K H a xs/\Sqk k K H b ys/\xs.length<=i⟩
section
variable{X:Cx}{pins:List (Addr×Obj)}{σ:St}{H:Hp}{s:Shared}
theorem Inv.turneds{h':Heap}{t':Nat}{fp:List Addr}(I:Inv X pins σ H s)(k:∀b o,b∉fp->s.heap.get? b=some o->h'.get? b=some o)(hf:∀b∈fp,FpOk X pins H b):Inv X pins σ H {s with heap:=h',toks:=t'}:=by
 refine I.call' (s':= {s with heap:=h',toks:=t'}) (ch:=fp) rfl ⟨fun b o e _ _ hx=>k b o hx e,fun b o e _ _ hx=>⟨o.slots,k b o hx e⟩,fun _ _ _ n _=>n,fun b o e hx=>⟨o,k b o hx e⟩,fun _ _ e=>e,fun _ _ _ e=>e,fun b ps e=>⟨#[],by rw[e];simp⟩⟩ ?_ I.bare fun b hb=>?_
 . intro b o e;have nb:∀c u,H c=some u->c∉fp:=fun c u e z=>by rw[(hf c z).1]at e;cases e
   refine(I.hok b o e).stay (fun c v hc q=>k c v ?_ q) (fun _ q=>q) fun _ _ q=>q;rcases hc with z|z
   . rw[z];exact nb b o e
   . exact nb c _ z
 . obtain⟨h,f,g2,a,d,g⟩:=hf b hb;exact⟨a,f,d,g⟩
end
theorem pf{P:Program}{w:World}{K:PySem.W.Frag}{es:List Expr}{kk:Nat}{pos:Pos}{k:Src}(a b z TI TO i1 i2:Addr)(hd: [z,TI,TO,i1,i2].Nodup):
 Turn P w K (.Tuple es kk pos) (Itz k K a b) [z,TI,TO,i1,i2] z (fun i h=>IsZip h z TI TO .none/\IsPair h TI (.ref i1) (.ref i2)/\(∃u v,IsPair h TO u v)/\k.It h i1 a i/\k.It h i2 b i/\a∉ [z,TI,TO,i1,i2]/\b∉ [z,TI,TO,i1,i2]) where
 mem:=by simp
 obj:=fun i h ⟨h1,h2,⟨u,v,h3⟩,l,j,_⟩ c hc=>by
  simp only[zc,zy,or_false]at hc;rcases hc with rfl|rfl|rfl|rfl|rfl
  . exact⟨_,h1,fun v e=>by cases (show Data.fields _=Data.cell v from e)⟩
  . exact⟨_,h2,fun v e=>by cases (show Data.seq _ _=Data.cell v from e)⟩
  . exact⟨_,h3,fun v e=>by cases (show Data.seq _ _=Data.cell v from e)⟩
  . exact jv l
  . exact jv j
 keep:=fun i h h' ⟨h1,h2,⟨u,v,h3⟩,l,j,f⟩ kp=>⟨kp z (by simp) _ h1,kp TI (by simp) _ h2,⟨u,v,kp TO (by simp) _ h3⟩,dD l fun o e=>kp i1 (by simp) o e,dD j fun o e=>kp i2 (by simp) o e,f⟩
 item:=by
  intro X hP hw hK hc i pins s σ H E I hf ⟨h1,h2,⟨u0,v0,h3⟩,l,j,f,g⟩ hg;subst hP hw hK;refine hZq fun q_ e_=>?_;obtain⟨xs,ys,x,y,t,g2,g3,g4⟩:=hg;obtain⟨as,r1,p1,z1⟩:=I.sqk t;obtain⟨bs,r2,p2,z2⟩:=I.sqk g2;obtain⟨u,e1,q1⟩:=r1.get g3;obtain⟨v,e2,q2⟩:=r2.get g4;simp only[AC,zc,zy,or_false,not_or,AK,and_true,not_false_eq_true]at hd f g;obtain⟨⟨d1,d2,d3,d4⟩,⟨d5,d6,d7⟩,⟨d8,d9⟩,r⟩:=hd;subst e_;have D:ZipApart z TI TO i1 i2 a b:=⟨Ne.symm d1,Ne.symm d2,Ne.symm d3,Ne.symm d4,d5,d6,d7,d8,d9,r,f.1,f.2.2.1,f.2.2.2.1,f.2.2.2.2,g.1,g.2.2.1,g.2.2.2.1,g.2.2.2.2⟩;refine tU D h1 h2 h3 l j p1 p2 (x:=u) (y:=v) (by simpa using e1) (by simpa using e2) fun h' a1 a2 a3 a4 a5 a6 up=>⟨_,rfl,?_⟩
  refine wpAny_letOwnedTupleGo_zip (s:= {s with heap:=h'}) a1 fun p b1 sb=>?_;have T:=s.heap.objs.size;have fr:H s.heap.objs.size=none:=I.hok.fresh (z4 _);have lt:∀ {c:Addr} {o:Obj},s.heap.get? c=some o->c≠s.heap.objs.size:=fun e=>zp (Heap.lt_size e)
  have all:∀c o,c∉ [z,TI,TO,i1,i2]->s.heap.get? c=some o->p.get? c=some o:=fun c o n e=>by
   simp only[zc,zy,or_false,not_or]at n;exact sb.extBut c o n.1 (up c o n.1 n.2.2.1 n.2.2.2.1 n.2.2.2.2 e)
  have nz:s.heap.objs.size≠z:=(lt h1).symm;have pT:IsPair p s.heap.objs.size u v:=sb.extBut _ _ nz a5
  have fp:∀b∈ [z,TI,TO,i1,i2],upd H s.heap.objs.size (.tup [x,y]) b=none:=fun c hc=>by
   have nc:c≠s.heap.objs.size:=by
    simp only[zc,zy,or_false]at hc;rcases hc with rfl|rfl|rfl|rfl|rfl
    . exact lt h1
    . exact lt h2
    . exact lt h3
    . obtain⟨o,e,_⟩:=jv l;exact lt e
    . obtain⟨o,e,_⟩:=jv j;exact lt e
   rw[ag nc];exact(hf c hc).1
  refine⟨.ref s.heap.objs.size,upd H s.heap.objs.size (.tup [x,y]),?_,rfl,⟨_,x,y,rfl,fr,rfl,fun zs hz=>?_,fun zs hz=>?_,zt (zb.mp g3).1 z1⟩,⟨b1,?_,⟨u,v,?_⟩,?_,?_,?_,?_⟩,fp⟩
  ·
   refine I.call' (s':= {s with heap:=p}) (ch:= [z,TI,TO,i1,i2]) rfl ⟨fun b o e _ _ hx=>all b o hx e,fun b o e _ _ hx=>⟨o.slots,all b o hx e⟩,fun c o e n _=>by rw[ag (lt e)];exact n,fun b o e hx=>⟨o,all b o hx e⟩,fun c zs e=>by rw[ag (aE e fr)];exact e,fun c o zs e=>by rw[ag (aE e fr)];exact e,fun c ps e=>⟨#[],by rw[ag (aE e fr),e];simp⟩⟩ ?_ I.bare fun b hb=>?_
   . intro c o e;by_cases ac:c=s.heap.objs.size
     . subst ac;rw[a8]at e;cases e;exact⟨by show 2<=sizeLine;decide,[u,v], .cons q1 (.cons q2 .nil),⟨_,pT,rfl,_,rfl⟩⟩
     . rw[ag ac]at e;have nb:∀c u,H c=some u->c∉ [z,TI,TO,i1,i2]:=fun c u e hz=>by rw[(hf c hz).1]at e;cases e
       refine(I.hok c o e).stay (fun d v hc q=>all d v ?_ q) (fun d q=>?_) fun d m q=>?_
       . rcases hc with hz|hz
         . rw[hz];exact nb c o e
         . exact nb d _ hz
       . rw[ag (aE q fr)];exact q
       . rw[ag (aE q fr)];exact q
   . refine hZq fun q_ e_=>?_;obtain⟨g0,t,g2,g3,g4,g5⟩:=hf b hb;subst e_;exact⟨g3,t,g4,g5⟩
  . rw[I.sqk_inj hz t];exact g3
  . rw[I.sqk_inj hz g2];exact g4
  . exact sb.extBut _ _ D.TIz (up _ _ D.TIz D.TITO D.TIi1 D.TIi2 h2)
  . exact sb.extBut _ _ D.TOz a2
  . exact dD a3 fun o e=>sb.extBut _ o D.i1z e
  . exact dD a4 fun o e=>sb.extBut _ o D.i2z e
  . simpa using f
  . simpa using g
 done:=by
  intro X hP hw hK hc i pins s σ H E I hf ⟨h1,h2,⟨u0,v0,h3⟩,l,j,f,g⟩ hg;subst hP hw hK;refine hZq fun q_ e_=>?_;obtain⟨xs,ys,t,g2,g3⟩:=hg;obtain⟨as,r1,p1,z1⟩:=I.sqk t;obtain⟨bs,r2,p2,z2⟩:=I.sqk g2;have hl:=r1.length;simp only[AC,zc,zy,or_false,not_or,AK,and_true,not_false_eq_true]at hd f g;obtain⟨⟨d1,d2,d3,d4⟩,⟨d5,d6,d7⟩,⟨d8,d9⟩,r⟩:=hd;subst e_;have D:ZipApart z TI TO i1 i2 a b:=⟨Ne.symm d1,Ne.symm d2,Ne.symm d3,Ne.symm d4,d5,d6,d7,d8,d9,r,f.1,f.2.2.1,f.2.2.2.1,f.2.2.2.2,g.1,g.2.2.1,g.2.2.2.1,g.2.2.2.2⟩;refine vR (I.ok.hd hc) D h1 h2 h3 l j p1 p2 (by simp;omega) fun h' up=>⟨rfl,I.turneds (t':=s.toks) (fun c o n e=>?_) hf⟩
  simp only[zc,zy,or_false,not_or]at n;exact up c o n.1 n.2.2.1 n.2.2.2.1 n.2.2.2.2 e
 self:=fun _ _ _ _ _ st h=>wpAny_pyIter_zip st.1 h
section
variable{X:Cx}
def iZip(k:Src)(K:PySem.W.Frag)(ta:TA):TI:=fun σ H R=>ta σ H fun vs H1=>∃a b xs ys,vs= [.ref a, .ref b]/\Sqk k K H1 a xs/\Sqk k K H1 b ys/\R (Itz k K a b) H1
theorem jg{k:Src}{es:List Expr}{kk:Nat}{pt:Pos}{x y:Expr}{ta:TA}{p pos:Pos}(hg:Gl X "zip")(hm:X.mg "zip"=none)(ha:PA X [x,y] ta)(hs:starEach [x,y] X.env= [(false,eval x X.env),(false,eval y X.env)]:=by rfl)(hs2:starEach [y] X.env= [(false,eval y X.env)]:=by rfl):
 PI X (.Tuple es kk pt) (.Call (.Name "zip" p) [x,y] [] pos) (iZip k X.K ta):=by
 intro pins s σ H R I h;refine Call_ (eh I hg hm PyProof.Rows.boot_zip (PyProof.Rows.callWith_type1 (thn (ha pos pins s σ H _ I h) fun us s1 ⟨vs,H1,d,r1,n⟩=>?_) (by rw[hs,hs2]) (by rw[hs2];rfl)))
 refine hZq fun q_ e_=>?_;obtain⟨a,b,xs,ys,e,k1,k2,q⟩:=n;subst e_;subst e
 cases r1 with
 |cons r g=>
  cases g with
  |cons r' g=>
   cases g;cases r;cases r';refine hZq fun q_ e_=>?_;obtain⟨as,_,i,_⟩:=d.sqk k1;obtain⟨bs,_,p2,_⟩:=d.sqk k2;subst e_;refine tI i p2 fun h' hz u v t t2 sz up=>?_;refine wpAny_pyIter_zip (s:= {s1 with heap:=h'}) hz ?_
   have l:a < s1.heap.objs.size:=by
    cases k
    . obtain⟨o,e,_⟩:=i;exact Heap.lt_size e
    . obtain⟨o,e,_⟩:=i;exact Heap.lt_size e
   have m:b < s1.heap.objs.size:=by
    cases k
    . obtain⟨o,e,_⟩:=p2;exact Heap.lt_size e
    . obtain⟨o,e,_⟩:=p2;exact Heap.lt_size e
   have f:∀j,a≠s1.heap.objs.size+j:=fun j=>zp (zt l (AJ ..));have nb:∀j,b≠s1.heap.objs.size+j:=fun j=>zp (zt m (AJ ..))
   have le:∀c∈ [s1.heap.objs.size+4,s1.heap.objs.size+2,s1.heap.objs.size+3,s1.heap.objs.size+0,s1.heap.objs.size+1],s1.heap.objs.size<=c:=fun c hc=>by
    simp only[zc,zy,or_false]at hc;rcases hc with rfl|rfl|rfl|rfl|rfl<;>exact AJ ..
   refine⟨s1.heap.objs.size+4,[s1.heap.objs.size+4,s1.heap.objs.size+2,s1.heap.objs.size+3,s1.heap.objs.size+0,s1.heap.objs.size+1],_,_,H1,rfl,d.kept (t':=s1.toks) up,pf a b _ _ _ _ _ (by simp),⟨hz,u,⟨_,_,v⟩,t,t2,?_,?_⟩,fun c hc=>d.fpOk (le c hc) (d.hok.fresh (le c hc)),q⟩
   . simp only[zc,zy,or_false,not_or];exact⟨f 4,f 2,f 3,f 0,f 1⟩
   . simp only[zc,zy,or_false,not_or];exact⟨nb 4,nb 2,nb 3,nb 0,nb 1⟩
open PySem PySem.Spec PyProof.Rows Zp
end
end L2
namespace Tre
open PySem L2 Zp
end Tre
namespace Tre
open PySem PySem.Spec PyProof.Rows L2
section
variable{X:Cx}
theorem tQ{H:Hp}{t:Tr}{e:Value->Bool}:∀ {xs:List V} {us:List Value} {ts:List Tr},Vals xs us->TrsAt H xs ts->(∀v u s,RelV v u->TrAt H v s->e u=eqT s t)->us.any e=ts.any fun s=>eqT s t
 |_,_,[],r,h,_=>by
  unfold TrsAt at h;subst h;cases r;rfl
 |_,_,s::ts,r,h,he=>by
  unfold TrsAt at h;obtain⟨v,q,rfl,h1,h2⟩:=h
  cases r with
  |cons r1 r2=>rw[List.any_cons,List.any_cons,tQ r2 h2 he,he _ _ _ r1 h1]
open PySem PySem.Spec PyProof.Rows L2
def SqE(H:Hp)(p:Addr)(xs:List V):Prop:=H p=some (.lst xs)\/H p=some (.tup xs)
def rIn(b:Bool):R2:=fun x y H Q=>∃p xs ts t,y= .ref p/\SqE H p xs/\TrsAt H xs ts/\TrAt H x t/\(∀u∈ts,u.depth<=40)/\t.pure/\Q (.bl ((ts.any fun u=>eqT u t)==b)) H
theorem eX{pins:List (Addr×Obj)}{s:Shared}{σ:L2.St}{H:Hp}{xs:List V}{ts:List Tr}{t:Tr}{x:V}{v:Value}{its:List Value}(hu:X.A.units+50 < cLine)(I:Inv X pins σ H s)(rx:RelV x v)(r:Vals xs its)(hT:TrsAt H xs ts)(ht:TrAt H x t)(hd:∀u∈ts,u.depth<=40)(hpu:t.pure):
 ∃e:Value->Bool,(∀w,w∈its.toArray->SeqAt.EqAt X.A.in1 s w v (e w))/\its.toArray.any e=ts.any fun s=>eqT s t:=by
 classical
 have he:∀b a s',RelV b a->TrAt H b s'->decide (∃v s,RelV v a/\TrAt H v s/\eqT s t=true)=eqT s' t:=fun b a s' r' h'=>by
  cases e:eqT s' t with
  |true=>exact decide_eq_true ⟨b,s',r',h',e⟩
  |false=>
   refine decide_eq_false ?_;rintro⟨l,k,r2,h2,e2⟩;cases r2.inj r';rw[TrAt.det h2 h',e]at e2;cases e2
 refine⟨fun a=>decide (∃v s,RelV v a/\TrAt H v s/\eqT s t=true),fun w hw=>?_,?_⟩
 . have c:w∈its:=by simpa using hw
   obtain⟨j,i,h⟩:=Ah c;have l1:=r.length;have l2:=hT.len;have f:ts[j]?=some (ts[j]'(by omega)):=yZ _
   obtain⟨b,e1,d⟩:=hT.get f;obtain⟨a,e2,g⟩:=r.get e1;rw[yZ i,h]at e2;cases e2;dsimp only;rw[he _ _ _ g d];exact j3 I 40 (hd _ (za f)) (.inr hpu) d ht g rx (by show X.A.units+1+40+1 < cLine;omega)
 . rw[List.any_toArray];exact tQ r hT he
theorem tK(b:Bool):(b==true)=b:=by cases b<;>rfl
theorem tL(b:Bool):(b==false)= !b:=by cases b<;>rfl
theorem wA(hu:X.A.units+50 < cLine):OpR X (compareOp .In) (rIn true):=by
 intro pins s σ H x y v u Q I c d h;obtain⟨p,xs,ts,t,rfl,hp,b,ht,hd,a,q⟩:=h;cases d;rcases hp with hp|hp
 . obtain⟨its,r,pl,hz⟩:=I.list (SqL.of hp);obtain⟨e,h1,h2⟩:=eX hu I c r b ht hd a;refine SeqAt.in_listAt e pl.isList h1 ⟨.bl _,H,I,rfl,?_⟩;rw[h2,<-tK (ts.any fun s=>eqT s t)];exact q
 . obtain⟨its,r,pl,hz⟩:=I.tuple (SqT.of hp);obtain⟨e,h1,h2⟩:=eX hu I c r b ht hd a;refine SeqAt.in_tupleAt e (show s.heap.IsTuple p its.toArray from pl) h1 ⟨.bl _,H,I,rfl,?_⟩;rw[h2,<-tK (ts.any fun s=>eqT s t)];exact q
theorem uF(hu:X.A.units+50 < cLine):OpR X (compareOp .NotIn) (rIn false):=by
 intro pins s σ H x y v u Q I c d h;obtain⟨p,xs,ts,t,rfl,hp,b,ht,hd,a,q⟩:=h;cases d;rcases hp with hp|hp
 . obtain⟨its,r,pl,hz⟩:=I.list (SqL.of hp);obtain⟨e,h1,h2⟩:=eX hu I c r b ht hd a;refine SeqAt.notIn_listAt e pl.isList h1 ⟨.bl _,H,I,rfl,?_⟩;rw[h2,<-tL (ts.any fun s=>eqT s t)];exact q
 . obtain⟨its,r,pl,hz⟩:=I.tuple (SqT.of hp);obtain⟨e,h1,h2⟩:=eX hu I c r b ht hd a;refine SeqAt.notIn_tupleAt e (show s.heap.IsTuple p its.toArray from pl) h1 ⟨.bl _,H,I,rfl,?_⟩;rw[h2,<-tL (ts.any fun s=>eqT s t)];exact q
end
end Tre
namespace L2
open PySem PySem.Spec PyProof.Rows
section
variable{X:Cx}
end
theorem tH{K K':PySem.W.Frag}{a:Addr}{mp:List (Option Nat)}{tl:TE}{te:TE}{Q:VK}{σ rest:L2.St}{H H1:Hp}{xs:List V}(e:subS mp σ=none::none::rest)(ha:∀Q:VK,Q (.ref a) H1->tl σ H Q)(h1:SqT K H1 a xs)(h:∀D,H1 D=none->∃Pv:Nat->List V->Hp->Prop,Pv 0 [] (upd H1 D (.lst []))/\(∀i acc H,Pv i acc H->SqT K H a xs)/\
  (∀i z acc H,i < xs.length->Pv i acc H->xs[i]?=some z->∃T x y,z= .ref T/\SqT K' H T [x,y]/\te (some x::some y::rest) H (CompN xs.length i D acc Pv))/\∀acc H,Pv xs.length acc H->Q (.ref D) H):
 cq mp (iTup K tl) (gTup K' 2 (be (aJ 0) (be (aJ 1) gNil))) cY te σ H Q:=by
 unfold cq;rw[e];refine ha _ ⟨a,rfl,⟨xs,h1⟩,fun D n=>?_⟩;obtain⟨Pv,f,j,ps,k⟩:=h D n;refine⟨fun i m acc H=>m=xs.length - i/\i<=xs.length/\Pv i acc H,⟨xs.length,by simp,zr _,f⟩,?_⟩
 rintro i m acc H ⟨rfl,hi,p⟩;have c:=j i acc H p;by_cases b:i < xs.length
 . refine .inr ⟨⟨xs,xs[i],c,by simp[b]⟩,?_⟩
   rintro v H' ⟨rfl,y⟩;have l:=y xs c;obtain⟨T,x,z,rfl,g,d⟩:=ps i v acc _ b p l;exact⟨T,[x,z],rfl,g,rfl,x,[z],rfl,z,[],rfl,rfl,ext2,d⟩
 . have ei:i=xs.length:=by omega
   subst ei;exact .inl ⟨⟨xs,c,z4 _⟩,k acc H p⟩
end L2
namespace Wd
open PySem L2 Tre Mth Dj
section
variable{P:Program}{w:World}{K:PySem.W.Frag}{H H':Hp}{F D C:Addr}{n:Nat}
end
section
variable{P:Program}{w:World}{K:PySem.W.Frag}{H H':Hp}{F D C r:Addr}{n:Nat}{v:V}{W:Wld}
end
end Wd
namespace L2
open PySem Tre Wd
theorem bP{t rest:TS}{Z:Ends}{σ:L2.St}{H:Hp}(R:L2.St->Hp->Prop)(hR:∀σ' H',R σ' H'->rest Z σ' H')(h:∀nx:L2.St->Hp->Prop,(∀σ' H',R σ' H'->nx σ' H')->t {Z with nx:=nx} σ H):tSeq t rest Z σ H:=h _ hR
theorem aj{i:Nat}{v:V}{σ:L2.St}{H:Hp}{k:L2.St->Hp->Prop}(h:k (σ.set i (some v)) H):aJ i v σ H k:=h
theorem cC{Z:Ends}{σ:L2.St}{H:Hp}(h:Z.nx σ H):vz Z σ H:=h
theorem u8{r:List V->Hp->VK->Prop}{te:TE}{i:Nat}{u:TS}{Z:Ends}{σ:L2.St}{H:Hp}(h:te σ H fun v H1=>r [v] H1 fun x H2=>aJ i x σ H2 (u Z)):tSeq (tAsg (tCB r (eI te tNil)) (aJ i)) u Z σ H:=h
theorem ua{r:List V->Hp->VK->Prop}{te:TE}{Z:Ends}{σ:L2.St}{H:Hp}(h:te σ H fun v H1=>r [v] H1 Z.rt):tRet (tCB r (eI te tNil)) Z σ H:=h
theorem u9{te:TE}{Z:Ends}{σ:L2.St}{H:Hp}(h:te σ H Z.rt):tRet te Z σ H:=h
theorem vV{te:TE}{σ:L2.St}{H:Hp}{Q:List V->Hp->Prop}(h:te σ H fun v H1=>Q [v] H1):eI te tNil σ H Q:=h
theorem ku{H:Hp}{v:V}{x:Str}{r:List Tr}(h:TrAt H v (.tup (.str x::r))):∃a vs,v= .ref a/\H a=some (.tup (.str x::vs))/\TrsAt H vs r:=by
 unfold TrAt at h;obtain⟨a,vs,e,h1,h2⟩:=h;obtain⟨y,r1,rfl,h3,b⟩:=h2.inv;unfold TrAt at h3;subst h3;exact⟨a,r1,e,h1,b⟩
theorem at2{H:Hp}{v:V}{k:Str}{t:Tr}(h:TrAt H v (.tup [.str k,t])):∃a y,v= .ref a/\H a=some (.tup [.str k,y])/\TrAt H y t:=by
 obtain⟨a,vs,e,h1,h2⟩:=ku h;obtain⟨y,r,rfl,h3,b⟩:=h2.inv;unfold TrsAt at b;subst b;exact⟨a,y,e,h1,h3⟩
theorem at3{H:Hp}{v:V}{k:Str}{t u:Tr}(h:TrAt H v (.tup [.str k,t,u])):∃a y z,v= .ref a/\H a=some (.tup [.str k,y,z])/\TrAt H y t/\TrAt H z u:=by
 obtain⟨a,vs,e,h1,h2⟩:=ku h;obtain⟨y,r,rfl,h3,d⟩:=h2.inv;obtain⟨z,r2,rfl,c,b⟩:=d.inv;unfold TrsAt at b;subst b;exact⟨a,y,z,e,h1,h3,c⟩
theorem at_s{H:Hp}{v:V}{x:Str}(h:TrAt H v (.str x)):v= .str x:=by
 unfold TrAt at h;exact h
theorem at_t{H:Hp}{v:V}{ts:List Tr}(h:TrAt H v (.tup ts)):∃a vs,v= .ref a/\H a=some (.tup vs)/\TrsAt H vs ts:=by
 unfold TrAt at h;exact h
theorem xS{H:Hp}{x:Str}:TrAt H (.str x) (.str x):=by unfold TrAt;rfl
theorem jI{H:Hp}{r:Addr}{vs:List V}{ts:List Tr}(h:H r=some (.tup vs))(h1:TrsAt H vs ts):TrAt H (.ref r) (.tup ts):=by
 unfold TrAt;exact⟨r,vs,rfl,h,h1⟩
theorem bL{H:Hp}{v:V}{a b:Tr}(h:TrAt H v (.tup [a,b])):∃r x y,v= .ref r/\H r=some (.tup [x,y])/\TrAt H x a/\TrAt H y b:=by
 unfold TrAt at h;obtain⟨r,vs,e,h1,h2⟩:=h;obtain⟨x,r1,rfl,h3,f⟩:=h2.inv;obtain⟨y,r2,rfl,d,c⟩:=f.inv;unfold TrsAt at c;subst c;exact⟨r,x,y,e,h1,h3,d⟩
theorem uW{H:Hp}{v:V}{a b:Int}(h:TrAt H v (.tup [.int a, .int b])):∃r,v= .ref r/\H r=some (.tup [.int a, .int b]):=by
 obtain⟨r,x,y,e,h1,h2,h3⟩:=bL h;unfold TrAt at h2 h3;subst h2 h3;exact⟨r,e,h1⟩
theorem cK{H:Hp}{r:Addr}{x y:V}{a b:Tr}(h:H r=some (.tup [x,y]))(h1:TrAt H x a)(h2:TrAt H y b):TrAt H (.ref r) (.tup [a,b]):=by
 unfold TrAt;exact⟨r,_,rfl,h, .cons h1 (.cons h2 .nil)⟩
theorem aP{H:Hp}{r:Addr}{a b:Int}(h:H r=some (.tup [.int a, .int b])):TrAt H (.ref r) (.tup [.int a, .int b]):=cK h (by unfold TrAt;rfl) (by unfold TrAt;rfl)
theorem bU{H:Hp}{v:V}{p:Fr}(h:TrAt H v (frT p)):∃r,v= .ref r/\H r=some (.tup [.int p.1, .int p.2]):=uW h
end L2
namespace L2
open PySem PySem.Spec PyProof.Rows
section
variable{X:Cx}
def rNeP(K:PySem.W.Frag):R2:=fun x y H Q=>∃(p q:Addr) (a b c d:Int),x= .ref p/\y= .ref q/\SqT K H p [.int a, .int b]/\SqT K H q [.int c, .int d]/\Q (.bl (!decide (a=c/\b=d))) H
theorem rP(hu:X.A.units+1 < cLine):OpR X (compareOp .NotEq) (rNeP X.K):=by
 intro pins s σ H x y v u Q I r l h;obtain⟨p,q,a,b,c,d,e1,e2,hp,hq,k⟩:=h;subst e1 e2;cases (show v=Value.ref p from r);cases (show u=Value.ref q from l);obtain⟨its,r1,m,_⟩:=I.tuple hp;obtain⟨f,r2,t2,_⟩:=I.tuple hq;obtain⟨u1,u2,rfl,⟨n,rfl⟩,⟨g,rfl⟩⟩:=Vals.two r1;obtain⟨z,t,rfl,⟨i,rfl⟩,⟨o,rfl⟩⟩:=Vals.two r2;refine SeqAt.RcNeAt.tuples (A:=X.A) (e:=fun j=>if j=0 then a==c else b==d) (show s.heap.IsTuple p _ from m) (show s.heap.IsTuple q _ from t2) (by omega) (fun j h1 h2=>?_) X.prog X.w X.xe _ ?_
 . match j,h1,h2 with
   |0,_,_=>exact PySem.SeqAt.EqAt.int_int a n c i
   |1,_,_=>exact PySem.SeqAt.EqAt.int_int b g d o
   |j+2,h1,_=>
    have:j+2 < 2:=h1;omega
 . refine⟨.bl (!decide (a=c/\b=d)),H,I,?_,k⟩;show Value.bool (!(((a==c)&& ((b==d)&&true))&&true))=Value.bool (!decide (a=c/\b=d));congr 2;rw[Bool.and_true,Bool.and_true,AN];simp
end
end L2
namespace Tre
open PySem L2
theorem j4{t:Tr}(h:Ty .tm t):∃ts,t= .tup ts:=by
 cases h<;>exact⟨_,rfl⟩
end Tre
namespace Su
open PySem L2 Tre Mth Wd
theorem gU{α β:Type}{f:α->β}{us vs:List β}(h:us.Perm vs):∀ {ps:List α},vs=ps.map f->∃qs:List α,us=qs.map f/\qs.Perm ps:=by
 induction h with
 |nil=>intro ps e;exact⟨[],rfl,by cases ps with|nil=>exact .nil|cons p ps=>simp at e⟩
 |cons x _ b=>
  intro ps e
  cases ps with
  |nil=>simp at e
  |cons p ps=>
   rw[zj,Au]at e;obtain⟨qs,e1,e2⟩:=b e.2;exact⟨p::qs,by rw[zj,e1,e.1],e2.cons p⟩
 |swap x y l=>
  intro ps e
  cases ps with
  |nil=>simp at e
  |cons p ps=>
   cases ps with
   |nil=>simp at e
   |cons q ps=>
    simp only[zj,Au]at e;obtain⟨e1,e2,a⟩:=e;exact⟨q::p::ps,by simp only[zj,e1,e2,a], .swap p q ps⟩
 |trans _ _ h1 h2=>
  intro ps e;obtain⟨d,e1,c⟩:=h2 e;obtain⟨qs,e2,p2⟩:=h1 e1;exact⟨qs,e2,p2.trans c⟩
structure Gq (e:Nat) (p:Pq):Prop where
 ty:Ty .tm p.1
 dep:p.1.depth<=7
 gf:Gf e p.2
 sh:Sh p.2
theorem Gq.mono{m n:Nat}{p:Pq}(h:Gq m p)(hn:m<=n):Gq n p:=⟨h.ty,h.dep,h.gf.mono hn,h.sh⟩
theorem Gq.pr{e:Nat}{p:Pq}(h:Gq e p):Ty .pr (prT p)/\(prT p).depth<=8:=by
 refine⟨.pr _ _ h.ty (.fr _ _),?_⟩;have:=h.dep;unfold prT frT;simp only[Tr.depth,Trs.depth];omega
theorem aD{α:Type}{us:List α}{i:Nat}{u:α}(e:us[i]?=some u):us.take (i+1)=us.take i++ [u]:=by
 rw[List.take_add_one,e];rfl
open PySem L2 Tre Mth Wd
noncomputable def scale(q:Fr)(p:Pq):Pq:=(p.1,gA p.2 q)
def negF(f:Fr):Fr:=(-f.1,f.2)
def neg(p:Pq):Pq:=(p.1,negF p.2)
theorem wd{f:Fr}(h:Sh f):Sh (negF f):=i8 h
theorem qT(f:Fr):rv (negF f)= -rv f:=by
 unfold rv negF;simp only[Rat.intCast_neg];grind
open Classical in
theorem ud(t:Tr)(ps:List Pq):tot t (ps.map neg)= -tot t ps:=by
 induction ps with
 |nil=>simp only[AF,tot];grind
 |cons p r a=>
  simp only[zj,tot,a];show(if p.1=t then rv (negF p.2)else 0)+_=_;rw[qT];by_cases z:p.1=t
  . simp only[if_pos z];grind
  . simp only[if_neg z];grind
open Classical in
theorem iB(t:Tr){q:Fr}(hq:Sh q){ps:List Pq}(h:∀p∈ps,Sh p.2):tot t (ps.map (scale q))=tot t ps*rv q:=by
 induction ps with
 |nil=>simp only[AF,tot];grind
 |cons p r a=>
  simp only[zj,tot,a fun x m=>h x (z5 _ m)];show(if p.1=t then rv (gA p.2 q)else 0)+_=_;rw[jT (h p z6) hq];by_cases z:p.1=t
  . simp only[if_pos z];grind
  . simp only[if_neg z];grind
end Su
namespace L2
open PySem PySem.Spec PyProof.Rows
section
variable{X:Cx}
theorem gG:∀ {ys:List Str} {us:List Value},Vals (ys.map V.str) us->StrsAre us ys
 | [],_,r=>by cases r;exact .nil
 |y::ys,_,r=>by
  rw[zj]at r
  cases r with
  |cons r1 r2=>
   obtain⟨t,rfl⟩:=r1;exact .cons y t (gG r2)
def yG(K:PySem.W.Frag):V->List V->Hp->VK->Prop:=fun x vs H Q=>∃(sep:Str) (l:Addr) (ys:List Str),x= .str sep/\vs= [.ref l]/\SqL K H l (ys.map V.str)/\(ys.map (·.length)).sum+ys.length*sep.length<=16777216/\Q (.str (Txt.join sep ys)) H
theorem uM:MtM X "str.join" (yG X.K):=by
 intro pins s σ H x vs v us Q I b rv h;obtain⟨sep,l,ys,rfl,rfl,hl,hz,q⟩:=h;obtain⟨t,rfl⟩:=b;obtain⟨u,rfl,a⟩:=rv.one;cases a;obtain⟨its,r,p,_⟩:=I.list hl;exact PyProof.Rows.join_list p.isList (by simpa using gG r) hz fun t' k=>⟨.str _,H,I.tok k,⟨_,rfl⟩,q⟩
end
end L2
namespace Dec
open PySem PySem.NumText L2 Mth
theorem len_app(x y:Str):(x++y).length=x.length+y.length:=by rw[<-cP,ii,zK,cP,cP]
end Dec
namespace Tw
open PySem L2 Tre Wd Mth Dec Su
mutual
noncomputable def tmC:Tr->List Nat
 | .tup (_:: .str x::r)=>match r with
  | []=>cl x
  |t::_=>40::cl x++tmK t++ [41]
 |_=> []
noncomputable def tmK:Tr->List Nat
 | .tup ts=>tmsC ts
 |_=> []
noncomputable def tmsC:List Tr->List Nat
 | []=> []
 |t::ts=>32::tmC t++tmsC ts
end
theorem eE(k x:Str):tmC (.tup [.str k, .str x])=cl x:=by rw[tmC]
theorem dQ(k x:Str)(ts:List Tr):tmC (.tup [.str k, .str x, .tup ts])=40::cl x++tmsC ts++ [41]:=by rw[tmC,tmK]
noncomputable def spC(cs:List (List Nat)):List Nat:=(cs.map (32:: ·)).flatten
theorem eD:∀ts,tmsC ts=spC (ts.map tmC)
 | []=>by rw[tmsC];rfl
 |t::ts=>by
  rw[tmsC,eD ts];rfl
theorem uj(a b:List (List Nat)):spC (a++b)=spC a++spC b:=by
 unfold spC;rw[zu,List.flatten_append]
theorem mE{B:Nat}:∀ {cs:List (List Nat)},(∀c∈cs,c.length<=B)->(spC cs).length<=cs.length*(B+1)
 | [],_=>zr _
 |c::cs,h=>by
  have h1:=h c z6;have h2:=mE fun d m=>h d (z5 c m);have e:spC (c::cs)=(32::c)++spC cs:=rfl;rw[e,zK,zq,zq,Nat.succ_mul];omega
theorem ym:cl (Str.ofString " ")= [32]:=by decide +kernel
theorem yN:cl (Str.ofString "(")= [40]:=by decide +kernel
theorem yC:cl (Str.ofString ")")= [41]:=by decide +kernel
theorem kJ(y:Str)(ys:List Str):cl (Txt.join (Str.ofString " ") (y::ys))=cl y++spC (ys.map cl):=by
 have e:Txt.join (Str.ofString " ") (y::ys)=Str.join (Str.ofString " ") (y::ys):=StrLaws.glued_eq_join _ _;rw[e];clear e
 induction ys generalizing y with
 |nil=>
  show cl y=cl y++spC [];simp[spC]
 |cons z ys a=>
  have e2:Str.join (Str.ofString " ") (y::z::ys)=y++Str.ofString " "++Str.join (Str.ofString " ") (z::ys):=rfl;rw[e2,ii,ii,ym,a z];simp[spC]
theorem pR{B:Nat}:∀ {ys:List Str},(∀y∈ys,y.length<=B)->(ys.map (·.length)).sum<=ys.length*B
 | [],_=>zr _
 |y::ys,h=>by
  have h1:=h y z6;have h2:=pR fun z m=>h z (z5 y m);simp only[zj,List.sum_cons,zq];rw[Nat.succ_mul];omega
open PySem PyProof.Rows L2 Tre Wd Mth Dec Su
section
variable{X:Cx}{D:Addr}
end
end Tw
namespace Trm
open PySem
def Ltr(c:Nat):Prop:=97<=c/\c<=122
structure Nm (x:Str):Prop where
 pos:0 < x.length
 le:x.length<=8
 ltr:∀c∈x.cps.toList,Ltr c
open PySem
def cl(x:Str):List Nat:=x.cps.toList
theorem cP(x:Str):(cl x).length=x.length:=by simp[cl,Str.length]
theorem nm_cl{x:Str}(h:Nm x):∃c l,cl x=c::l/\Ltr c:=by
 cases e:cl x with
 |nil=>
  have:=cP x;rw[e]at this;have:=h.pos;simp at*;omega
 |cons c l=>exact⟨c,l,rfl,h.ltr c (by show c∈cl x;rw[e];exact z6)⟩
end Trm
namespace Tw
open PySem L2 Tre Wd Mth Dec Su
abbrev Nm:=Trm.Nm
abbrev Ltr:=Trm.Ltr
inductive Lt:Tr->Prop
 |nm (x:Str):Nm x->Lt (.tup [s_ "name", .str x])
 |ap (f:Str) (ts:List Tr):Nm f->0 < ts.length->(∀t∈ts,Lt t)->Lt (.tup [s_ "call", .str f, .tup ts])
def St(Q:Nat->Prop)(r:List Nat):Prop:=∀c l,r=c::l->¬Q c
theorem lA{Q:Nat->Prop}:∀ {x y r s:List Nat},(∀c∈x,Q c)->(∀c∈y,Q c)->St Q r->St Q s->x++r=y++s->x=y/\r=s
 | [],[],_,_,_,_,_,_,e=>⟨rfl,e⟩
 | [],b::y,r,s,_,hy,hr,_,e=>absurd (hy b z6) (hr b _ e)
 |a::x,[],r,s,hx,_,_,hs,e=>absurd (hx a z6) (hs a _ e.symm)
 |a::x,b::y,r,s,hx,hy,hr,hs,e=>by
  rw[zX,zX]at e;obtain⟨e1,e2⟩:=List.cons.inj e;obtain⟨d,f⟩:=lA (fun c m=>hx c (z5 _ m)) (fun c m=>hy c (z5 _ m)) hr hs e2;exact⟨by rw[e1,d],f⟩
def En(r:List Nat):Prop:=∀c l,r=c::l->c=32\/c=41
theorem En.st{Q:Nat->Prop}{r:List Nat}(h:En r)(h1:¬Q 32)(h2:¬Q 41):St Q r:=fun c l e=>by
 rcases h c l e with rfl|rfl
 . exact h1
 . exact h2
theorem En.nil:En []:=fun c l e=>by cases e
theorem En.b(l:List Nat):En (32::l):=fun c m e=>by cases e;exact .inl rfl
theorem En.k(l:List Nat):En (41::l):=fun c m e=>by cases e;exact .inr rfl
theorem j9(cs:List (List Nat))(r:List Nat):En (spC cs++41::r):=by
 cases cs with
 |nil=>exact En.k r
 |cons c cs=>exact En.b _
theorem nl32:¬Ltr 32:=by unfold Ltr Trm.Ltr;omega
theorem nl41:¬Ltr 41:=by unfold Ltr Trm.Ltr;omega
theorem pY{α:Type}(c:α->List Nat){Q:α->Prop}:∀ {ts us:List α} {r s:List Nat},(∀t∈ts,∀u,Q u->∀r s,En r->En s->c t++r=c u++s->t=u/\r=s)->(∀u∈us,Q u)->
 spC (ts.map c)++41::r=spC (us.map c)++41::s->ts=us/\r=s
 | [],[],r,s,_,_,e=>by
  simp only[spC,AF,List.flatten_nil,AD]at e;exact⟨rfl,(List.cons.inj e).2⟩
 | [],u::us,r,s,_,_,e=>by
  have e':41::r=32::(c u++spC (us.map c)++41::s):=by simpa [spC]using e
  cases e'
 |t::ts,[],r,s,_,_,e=>by
  have e':32::(c t++spC (ts.map c)++41::r)=41::s:=by simpa [spC]using e
  cases e'
 |t::ts,u::us,r,s,ht,hu,e=>by
  have e':32::(c t++(spC (ts.map c)++41::r))=32::(c u++(spC (us.map c)++41::s)):=by simpa [spC]using e
  obtain⟨e1,e2⟩:=ht t z6 u (hu u z6) _ _ (j9 _ _) (j9 _ _) (List.cons.inj e').2;obtain⟨a,b⟩:=pY c (fun t m=>ht t (z5 _ m)) (fun u m=>hu u (z5 _ m)) e2;exact⟨by rw[e1,a],b⟩
theorem nm_cl{x:Str}(h:Nm x):∃c l,cl x=c::l/\Ltr c:=Trm.nm_cl h
theorem ji{x:Str}(h:Nm x):∀c∈cl x,Ltr c:=h.ltr
theorem vU{t:Tr}(h:Lt t):∀(u:Tr),Lt u->∀(r s:List Nat),En r->En s->tmC t++r=tmC u++s->t=u/\r=s:=by
 induction h with
 |nm x hx=>
  intro u hu r s hr hs e
  cases hu with
  |nm y hy=>
   unfold s_ at e ⊢;rw[eE,eE]at e;obtain⟨e1,e2⟩:=lA (ji hx) (ji hy) (hr.st nl32 nl41) (hs.st nl32 nl41) e;exact⟨by rw[cl_inj e1],e2⟩
  |ap g us a h0 hu=>
   unfold s_ at e;rw[eE,dQ]at e;obtain⟨c,l,q,hc⟩:=nm_cl hx;rw[q,zX]at e;have:c=40:=(List.cons.inj e).1;subst this;unfold Ltr Trm.Ltr at hc;omega
 |ap f ts d h0 ht b=>
  intro u hu r s hr hs e
  cases hu with
  |nm y hy=>
   unfold s_ at e;rw[eE,dQ]at e;obtain⟨c,l,q,hc⟩:=nm_cl hy;rw[q,zX]at e;have:40=c:=(List.cons.inj e).1;subst this;unfold Ltr Trm.Ltr at hc;omega
  |ap g us a i hu=>
   unfold s_ at e ⊢;rw[dQ,dQ,eD,eD]at e;have e':cl f++(spC (ts.map tmC)++41::r)=cl g++(spC (us.map tmC)++41::s):=by simpa using e
   obtain⟨e1,e2⟩:=lA (ji d) (ji a) ((j9 _ _).st nl32 nl41) ((j9 _ _).st nl32 nl41) e';obtain⟨k,j⟩:=pY tmC b hu e2;exact⟨by rw[cl_inj e1,k],j⟩
end Tw
namespace Fs
section
variable{α:Type}
end
end Fs
namespace Tw
open PySem L2 Tre Wd Mth Dec Su
end Tw
namespace Fm
open PySem L2 Tre Wd Mth Dec Su Tw
inductive Gt:Tr->Prop
 |nm (x:Str):Nm x->Gt (.tup [s_ "name", .str x])
 |ap (f:Str) (ts:List Tr):Nm f->0 < ts.length->ts.length<=3->(∀t∈ts,Gt t)->Gt (.tup [s_ "call", .str f, .tup ts])
theorem Gt.lt{t:Tr}(h:Gt t):Lt t:=by
 induction h with
 |nm x hx=>exact .nm x hx
 |ap f ts a h0 h3 _ b=>exact .ap f ts a h0 b
theorem Gt.ty{t:Tr}(h:Gt t):Ty .tm t:=by
 induction h with
 |nm x hx=>exact .nm x
 |ap f ts b h0 h3 _ a=>exact .ap f ts h3 a
theorem Gt.inj{t u:Tr}(h:Gt t)(h':Gt u)(e:tmC t=tmC u):t=u:=(vU h.lt u h'.lt [] [] En.nil En.nil (by rw[e])).1
theorem sub_len{α:Type}:∀ {l U:List α},l.Nodup->(∀x∈l,x∈U)->l.length<=U.length
 | [],U,_,_=>zr _
 |x::l,U,h,hs=>by
  obtain⟨h1,h2⟩:=AC.mp h;obtain⟨a,b,rfl⟩:=List.append_of_mem (hs x z6)
  have:l.length<=(a++b).length:=sub_len h2 fun y c=>by
   have:=hs y (z5 _ c);simp only[zv,zc]at this ⊢;rcases this with h|rfl|h
   . exact .inl h
   . exact absurd c h1
   . exact .inr h
  simp only[zK,zq]at this ⊢;omega
open Classical in
noncomputable def ix(us:List Tr)(t:Tr):Nat:=us.findIdx fun x=>decide (x=t)
open Classical in
theorem ix_at{us:List Tr}{t:Tr}(m:t∈us):us[ix us t]?=some t:=by
 unfold ix;have h:us.findIdx (fun x=>decide (x=t)) < us.length:=List.findIdx_lt_length_of_exists ⟨t,m,by simp⟩
 have:=List.findIdx_getElem (w:=h);rw[yZ h];exact congrArg some (of_decide_eq_true this)
theorem yP{us:List Tr}{t:Tr}(m:t∈us):ix us t < us.length:=(zb.mp (ix_at m)).1
theorem sj{α:Type}{l:List α}(h:l.Nodup){i j:Nat}{x:α}(h1:l[i]?=some x)(h2:l[j]?=some x):i=j:=by
 obtain⟨hi,e1⟩:=zb.mp h1;obtain⟨a,e2⟩:=zb.mp h2;have n:=An.mp h;rw[A6]at n;rcases Nat.lt_trichotomy i j with q|q|q
 . exact absurd (e1.trans e2.symm) (n i j hi a q)
 . exact q
 . exact absurd (e2.trans e1.symm) (n j i a hi q)
theorem ix_eq{us:List Tr}(nd:us.Nodup){i:Nat}{t:Tr}(e:us[i]?=some t):ix us t=i:=sj nd (ix_at (za e)) e
end Fm
namespace L2
open PySem PySem.Spec PyProof.Rows Zp
def Ite(K:PySem.W.Frag)(a:Addr):It:=
 ⟨fun i H=>∃xs x,SqL K H a xs/\xs[i]?=some x,
  fun i H v H'=>∃T x,v= .ref T/\H T=none/\H'=upd H T (.tup [.int i,x])/\(∀xs,SqL K H a xs->xs[i]?=some x)/\i < sizeLine,
  fun i H=>∃xs,SqL K H a xs/\xs.length<=i⟩
theorem oi{P:Program}{w:World}{K:PySem.W.Frag}{es:List Expr}{kk:Nat}{pos:Pos}(a e it:Addr)(hd:e≠it):
 Turn P w K (.Tuple es kk pos) (Ite K a) [e,it] e (fun i h=>(∃old,IsEnum h e it i old)/\h.IsListIter it a i/\a∉ [e,it]) where
 mem:=by simp
 obj:=fun i h ⟨⟨u,h1⟩,h2,_⟩ c hc=>by
  simp only[zc,zy,or_false]at hc;rcases hc with rfl|rfl
  . exact⟨_,h1,fun v e=>by cases (show Data.fields _=Data.cell v from e)⟩
  . refine hZq fun q_ e_=>?_;obtain⟨o,e1,_,e3⟩:=h2;subst e_;exact⟨o,e1,fun v e=>by rw[e3]at e;cases e⟩
 keep:=fun i h h' ⟨⟨u,h1⟩,h2,h3⟩ kp=>⟨⟨u,kp e (by simp) _ h1⟩,h2.at fun o x=>kp it (by simp) o x,h3⟩
 item:=by
  intro X t hw y hc i pins s σ H E I r ⟨⟨u0,h1⟩,h2,h6⟩ z;subst t hw y;refine hZq fun q_ e_=>?_;obtain⟨xs,x,k,j⟩:=z;obtain⟨as,r1,p,z1⟩:=I.list k;obtain⟨u,e1,q1⟩:=r1.get j;subst e_;have p:=p.isList;simp only[zc,zy,or_false,not_or]at h6;refine wpAny_pyNext_enum_item h1 h2 p (x:=u) (by simpa using e1) hd fun h' a1 a3 a5 a6 up=>⟨_,rfl,?_⟩
  refine wpAny_letOwnedTupleGo_enum (s:= {s with heap:=h',toks:=s.toks+1}) a1 fun g b1 sb=>?_;have fr:H s.heap.objs.size=none:=I.hok.fresh (z4 _);have lt:∀ {c:Addr} {o:Obj},s.heap.get? c=some o->c≠s.heap.objs.size:=fun e=>zp (Heap.lt_size e)
  have all:∀c o,c∉ [e,it]->s.heap.get? c=some o->g.get? c=some o:=fun c o n f=>by
   simp only[zc,zy,or_false,not_or]at n;exact sb.extBut c o n.1 (up c o n.1 n.2 f)
  have nz:s.heap.objs.size≠e:=(lt h1).symm;have pT:g.get? s.heap.objs.size=some {cls:= .type "tuple",data:= .seq #[.int i s.toks,u]}:=sb.extBut _ _ nz a5
  have fp:∀b∈ [e,it],upd H s.heap.objs.size (.tup [.int i,x]) b=none:=fun c hc=>by
   have nc:c≠s.heap.objs.size:=by
    simp only[zc,zy,or_false]at hc;rcases hc with rfl|rfl
    . exact lt h1
    . obtain⟨o,f,_⟩:=h2;exact lt f
   rw[ag nc];exact(r c hc).1
  refine⟨.ref s.heap.objs.size,upd H s.heap.objs.size (.tup [.int i,x]),?_,rfl,⟨_,x,rfl,fr,rfl,fun zs hz=>?_,zt (zb.mp j).1 z1⟩,⟨⟨u,by simpa using b1⟩,?_,?_⟩,fp⟩
  ·
   refine I.call' (s':= {s with heap:=g,toks:=s.toks+1}) (ch:= [e,it]) rfl ⟨fun b o e _ _ hx=>all b o hx e,fun b o e _ _ hx=>⟨o.slots,all b o hx e⟩,fun c o e n _=>by rw[ag (lt e)];exact n,fun b o e hx=>⟨o,all b o hx e⟩,fun c zs e=>by rw[ag (aE e fr)];exact e,fun c o zs e=>by rw[ag (aE e fr)];exact e,fun c ps e=>⟨#[],by rw[ag (aE e fr),e];simp⟩⟩ ?_ I.bare fun b hb=>?_
   . intro c o f;by_cases l:c=s.heap.objs.size
     . subst l;rw[a8]at f;cases f;exact⟨by show 2<=sizeLine;decide,[.int i s.toks,u], .cons ⟨_,rfl⟩ (.cons q1 .nil),⟨_,pT,rfl,_,rfl⟩⟩
     . rw[ag l]at f;have nb:∀c u,H c=some u->c∉ [e,it]:=fun c u e hz=>by rw[(r c hz).1]at e;cases e
       refine(I.hok c o f).stay (fun d v hc q=>all d v ?_ q) (fun d q=>?_) fun d m q=>?_
       . rcases hc with hz|hz
         . rw[hz];exact nb c o f
         . exact nb d _ hz
       . rw[ag (aE q fr)];exact q
       . rw[ag (aE q fr)];exact q
   . refine hZq fun q_ e_=>?_;obtain⟨g0,k,g2,j,g4,g5⟩:=r b hb;subst e_;exact⟨j,k,g4,g5⟩
  . rw[I.list_inj hz k];exact j
  . exact a3.extBut sb.extBut hd.symm
  . simpa using h6
 done:=by
  intro X t hw y hc i pins s σ H E I r ⟨⟨u0,h1⟩,h2,h6⟩ z;subst t hw y;refine hZq fun q_ e_=>?_;obtain⟨xs,k,j⟩:=z;obtain⟨as,r1,p,z1⟩:=I.list k;subst e_;have hl:=r1.length;refine wpAny_pyNext_enum_end (I.ok.hd hc) h1 h2 p.isList (by simp;omega) fun h' up=>⟨rfl,I.turneds (t':=s.toks) (fun c o n f=>?_) r⟩
  simp only[zc,zy,or_false,not_or]at n;exact up c o n.2 f
 self:=fun _ _ _ _ _ st h=>by
  obtain⟨⟨u,h1⟩,_⟩:=st;exact wpAny_pyIter_enum h1 h
section
variable{X:Cx}
def vJ(K:PySem.W.Frag)(ta:TA):TI:=fun σ H R=>ta σ H fun vs H1=>∃a xs,vs= [.ref a]/\SqL K H1 a xs/\R (Ite K a) H1
theorem uA{es:List Expr}{kk:Nat}{pt:Pos}{x:Expr}{ta:TA}{p pos:Pos}(hg:Gl X "enumerate")(hm:X.mg "enumerate"=none)(ha:PA X [x] ta)(hs:starEach [x] X.env= [(false,eval x X.env)]:=by rfl):
 PI X (.Tuple es kk pt) (.Call (.Name "enumerate" p) [x] [] pos) (vJ X.K ta):=by
 intro pins s σ H R I h;refine Call_ (eh I hg hm PyProof.Rows.boot_enumerate (PyProof.Rows.callWith_type1 (thn (ha pos pins s σ H _ I h) fun us s1 ⟨vs,H1,b,r1,i⟩=>?_) (by rw[hs];rfl) rfl))
 obtain⟨a,xs,e,k1,q⟩:=i;subst e
 cases r1 with
 |cons r k=>
  cases k;cases r;obtain⟨as,_,d,_⟩:=b.list k1;have d:=d.isList
  have f:a < s1.heap.objs.size:=by
   obtain⟨o,e,_⟩:=d;exact Heap.lt_size e
  refine call_enumerate_list d fun h' h1 h2 sz up=>?_;refine wpAny_pyIter_enum (s:= {s1 with heap:=h'}) h1 ?_;have g:∀j,a≠s1.heap.objs.size+j:=fun j=>zp (zt f (AJ ..))
  have le:∀c∈ [s1.heap.objs.size+1,s1.heap.objs.size+0],s1.heap.objs.size<=c:=fun c hc=>by
   simp only[zc,zy,or_false]at hc;rcases hc with rfl|rfl<;>exact AJ ..
  refine⟨s1.heap.objs.size+1,[s1.heap.objs.size+1,s1.heap.objs.size+0],_,_,H1,rfl,b.kept (t':=s1.toks) up,oi a _ _ (by simp),⟨⟨_,h1⟩,h2,?_⟩,fun c hc=>b.fpOk (le c hc) (b.hok.fresh (le c hc)),q⟩
  simp only[zc,zy,or_false,not_or];exact⟨g 1,g 0⟩
end
end L2
namespace L2
section
open PySem
variable{prog:Program}{w:World}{A:Around}{R:Result->Shared->Prop}{s:Shared}
theorem fW{kx vx target iter:Expr}{ifs:List Expr}{scope:Scope}{pos:Pos}{it:Value}{D:Addr}{env:Env}(I:Nat->Shared->Prop)(turn:∀n s,I n s->wpAny (model prog w) A (pyNext it) (fun r s₁=>match r with
  |none=>R (.ok .next) s₁
  |some v=>wpAny (model prog w) A (letOwnedTupleGo target it v) (fun _ s₁'=>wpAny (model prog w) A (assign target env v) (fun _ s₂=>
   wpAny (model prog w) A (forIn ifs true fun c r=>if r=true then do let ok<-isTrue c env (eval c env);pure (ForInStep.yield ok)else pure (ForInStep.yield r)) (fun ok s₃=>
    if ok=true then wpAny (model prog w) A (eval kx env) (fun kv s₄=>wpAny (model prog w) A (eval vx env) (fun vv s₅=>
     wpAny (model prog w) A (dictSet D kv vv) (fun _ s₆=>∃m,m < n/\I m s₆) (fun _ _=>False) s₅) (fun _ _=>False) s₄) (fun _ _=>False) s₃
    else∃m,m < n/\I m s₃) (fun _ _=>False) s₂) (fun _ _=>False) s₁') (fun _ _=>False) s₁) (fun _ _=>False) s)(n:Nat)(h:I n s):codeAny (model prog w) A (.compLoop (.DictComp kx vx [⟨target,iter,ifs,0⟩] scope pos) 0 it (.ref D) env) R s:=by
 refine codeAny_loop rfl I (fun n s j=>?_) n h;show wpAny _ A ((compTurn (.DictComp kx vx [⟨target,iter,ifs,0⟩] scope pos) 0 it (.ref D) env).onRaise (fun x=>do noteFrame x env;theTreesLotGoes x)) _ _ s
 refine wpAny_noted ?_;rw[compTurn_dict];refine wpAny_bind (wpAny_standAt (wpAny_bind (wpAny_mono (turn n s j) (fun r s₁ d=>?_) fun _ _ z=>z.elim)))
 cases r with
 |none=>exact wpAny_pure d
 |some v=>
  refine wpAny_bind (wpAny_mono d (fun _ s₁' a=>?_) fun _ _ z=>z.elim);refine wpAny_bind (wpAny_mono a (fun _ s₂ i=>wpAny_bind (wpAny_mono i (fun ok s₃ b=>?_) fun _ _ z=>z.elim)) fun _ _ z=>z.elim)
  cases ok with
  |false=>exact wpAny_pure ⟨rfl,b⟩
  |true=>
   exact wpAny_bind (wpAny_bind (wpAny_mono b (fun kv s₄ f=>wpAny_bind (wpAny_holding (wpAny_mono f (fun vv s₅ e=>wpAny_bind (wpAny_standAt (wpAny_holding (wpAny_mono e (fun _ s₆ g=>wpAny_pure ⟨rfl,g⟩) fun _ _ z=>z.elim)))) fun _ _ z=>z.elim))) fun _ _ z=>z.elim))
end
open PySem PySem.Spec PyProof.Rows
def kX(mp:List (Option Nat))(wi:TI)(g:TG)(tc:TT)(tk te:TE):TE:=fun σ H Q=>wi σ H fun J H1=>∀D,H1 D=none->
 ∃W:Nat->Nat->List (Key×V)->Hp->Prop,(∃m,W 0 m [] (upd H1 D (.dK [])))/\∀i m acc H2,W i m acc H2->
  (J.stop i H2/\Q (.ref D) H2)\/
  (J.go i H2/\∀x H3,J.yld i H2 x H3->g x (subS mp σ) H3 fun σ4 H4=>Ext (subS mp σ) σ4/\tc σ4 H4 fun b H5=>if b=true then tk σ4 H5 fun y H6=>∃k,y=kV k/\te σ4 H6 fun v H7=>H7 D=some (.dK acc)/\acc.length < sizeLine/\∃m',m' < m/\W (i+1) m' (putK acc k v) (upd H7 D (.dK (putK acc k v)))
   else∃m',m' < m/\W (i+1) m' acc H5)
section
variable{X:Cx}{pins:List (Addr×Obj)}{σ:St}{H:Hp}{s:Shared}
variable{kx vx target iter:Expr}{ifs:List Expr}{scope:Scope}{NC:List Str}{mp:List (Option Nat)}{pos:Pos}{wi:TI}{g:TG}{tc:TT}{tk te:TE}
theorem rN(hcalm:X.calm=true)(hi:PI X target iter wi)(hg:∀C s H fp pn,PG (XC X scope NC C s H fp pn) target g)(ht:∀C s H fp pn,PTs (XC X scope NC C s H fp pn) ifs tc)(hkx:∀C s H fp pn,PE (XC X scope NC C s H fp pn) kx tk)(he:∀C s H fp pn,PE (XC X scope NC C s H fp pn) vx te)(hl:mp.length=NC.length:=by rfl)(hm:gZ X.N NC mp scope.names X.env.scope.names=true:=by rfl)(hc:bK scope.names X.env.cells=true:=by rfl)(hk:scope.kind= .function:=by rfl)(hnc:∀y∈scope.names,y.2≠ .cell:=by decide +kernel)(hnm:∀y∈scope.names,y.2= .local->scope.names.lookup y.1=some .local:=by decide +kernel)(hs:∀x,foldedSetIterable iter X.env x=pure x:=by intro _;rfl):
 PE X (.DictComp kx vx [⟨target,iter,ifs,0⟩] scope pos) (kX mp wi g tc tk te):=by
 intro pins s σ H Q I h;rw[arm_eval_DictComp];refine wpAny_comprehension_free (use:=none) rfl hs (gj hc) hk hnm (thn (hi pins s σ H _ I h) fun v s1 h1=>thn h1 fun d2 f h2=>?_);refine hZq fun q_ e_=>?_;obtain⟨it,fp,tn,J,H2,e,I2,T,a4,f2,W⟩:=h2;subst e_;subst e;refine wpAny_newObj_type ?_;have nD:H2 f.heap.objs.size=none:=I2.hok.fresh (z4 _)
 have I3:Inv X pins σ (upd H2 f.heap.objs.size (.dK [])) {f with heap:=f.heap.push {cls:= .type "dict",data:= .dict #[]}}:=
  I2.laid (t':=f.toks) (fun b u e=>Heap.get?_push_of_some _ e) (z4 _) (kz f.heap I2.big)
 refine hZq fun q_ e_=>?_;obtain⟨W,⟨m0,w0⟩,turn⟩:=W _ nD;subst e_
 have bg:∀b∈fp,b < f.heap.objs.size:=fun b hb=>by
  obtain⟨o,e,_⟩:=T.obj 0 _ a4 b hb;exact Heap.lt_size e
 have cd:∀b∈fp,b≠f.heap.objs.size:=fun b hb=>zp (bg b hb)
 have f3:∀b∈fp,FpOk X pins (upd H2 f.heap.objs.size (.dK [])) b:=fun b hb=>by
  obtain⟨g0,g1⟩:=f2 b hb;exact⟨by rw[ag (cd b hb)];exact g0,g1⟩
 have bi:tn 0 (f.heap.push {cls:= .type "dict",data:= .dict #[]}):=T.keep 0 _ _ a4 fun b _ o e=>Heap.get?_push_of_some _ e
 have a1:∀b∈fp,b < (f.heap.push {cls:= .type "dict",data:= .dict #[]}).objs.size:=fun b hb=>by
  rw[Heap.size_push];exact Ai (bg b hb)
 generalize hD:f.heap.objs.size=D at*;generalize bY:({f with heap:=f.heap.push {cls:= .type "dict",data:= .dict #[]}}:Shared)=a at*;have c4:a.heap=f.heap.push {cls:= .type "dict",data:= .dict #[]}:=by rw[<-bY]
 rw[<-c4]at bi a1;generalize dV:upd H2 D (.dK [])=H3 at*;refine wpAny_newFunctionEnv (around:=some X.env) hnc (by intro y hy;cases hy) (fun h4 cb a3=>?_) hk
 have a6:∀b o,a.heap.get? b=some o->h4.get? b=some o:=fun b o e=>a3.extBut b o (zp (Heap.lt_size e)) (Heap.get?_push_of_some _ e);have I4:=I3.block (tk:=a.toks+([]:List (Str×Value)).length) f3 a1 hk hnc hc hl hm a6 cb;have bw:tn 0 h4:=T.keep 0 _ _ bi fun b _ o e=>a6 b o e
 have fin:∀(s5:Shared) (σ5:St) (H5:Hp),Inv (XC X scope NC a.heap.objs.size a H3 fp (X.pn++pins)) [] σ5 H5 s5->Q (.ref D) H5->compPost (model X.prog X.w) X.A X.xe none (EP X pins σ Q) (.ref D) a.heap.objs.size (.ok .next) s5:=by
  intro s5 σ5 H5 I5 q5;obtain⟨m5,db,_⟩:=id I5.loc;refine⟨m5,db,fun h6 bB=>⟨.ref D,H5,?_,rfl,q5⟩⟩;have ac:∀b o,b≠a.heap.objs.size->s5.heap.get? b=some o->h6.get? b=some o:=fun b o hb e=>bB.extBut b o hb e;have nC:∀b o,a.heap.get? b=some o->b≠a.heap.objs.size:=fun b o e=>zp (Heap.lt_size e);have un:Un (frs X.stack) fp H3 H5 a.heap s5.heap:=I5.base;have j:H5 a.heap.objs.size=none:=I5.free;refine I3.call' (s':= {s5 with heap:=h6}) (ch:=fp) I5.os ⟨fun b o e n hb hx=>ac b o (nC b o e) (un.keep b o e n hb hx),fun b o e n hb hx=>?_,un.free,fun b o e hx=>?_,un.tups,un.frzs,un.tbls⟩ ?_ I5.bare (fun b hb=>?_)
  . obtain⟨sl,e1⟩:=un.slot b o e n hb hx;exact⟨sl,ac b _ (nC b o e) e1⟩
  . obtain⟨o',e1⟩:=un.there b o e hx;exact⟨o',ac b o' (nC b o e) e1⟩
  . intro b o e;have nb:b≠a.heap.objs.size:=fun z=>by rw[z,j]at e;cases e
    refine(I5.hok b o e).stay (fun c v bF r=>ac c v ?_ r) (fun _ r=>r) fun _ _ r=>r;rcases bF with z|z
    . rw[z];exact nb
    . intro y;rw[y,j]at z;cases z
  . refine hZq fun q_ e_=>?_;obtain⟨g0,g1,g2,g3,g4,g5⟩:=f3 b hb;subst e_;exact⟨g3,g1,g4,g5⟩
 have loop:codeAny (model X.prog X.w) X.A (.compLoop (.DictComp kx vx [⟨target,iter,ifs,0⟩] scope pos) 0 (.ref it) (.ref D) (compEnvC scope (c7 scope.names X.env.cells []) a.heap.objs.size X.env)) (compPost (model X.prog X.w) X.A X.xe none (EP X pins σ Q) (.ref D) a.heap.objs.size)
  {a with heap:=h4,toks:=a.toks+([]:List (Str×Value)).length}:=by
  refine fW (fun n s'=>∃i acc σ' H',Inv (XC X scope NC a.heap.objs.size a H3 fp (X.pn++pins)) [] σ' H' s'/\Ext (subS mp σ) σ'/\tn i s'.heap/\(∀b∈fp,H' b=none)/\W i n acc H') ?_ m0
   ⟨0,[],subS mp σ,H3,I4,fun _ _ e=>e,bw,fun b hb=>(f3 b hb).1,w0⟩
  intro n s5 z_;refine hZq fun q_ e_=>?_;obtain⟨i,acc,σ5,H5,I5,hσ,bb,a7,w5⟩:=z_;subst e_;have a5:Inv (XC X scope NC a.heap.objs.size a H3 fp (X.pn++pins)) [] (subS mp σ) H5 s5:=I5.weak (by rw[I5.len];unfold subS;rw[yY];exact hl) hσ
  have aT:∀ {H':Hp},(∀b∈fp,H' b=none)->∀b∈fp,FpOk (XC X scope NC a.heap.objs.size a H3 fp (X.pn++pins)) [] H' b:=fun hn b hb=>by
   refine hZq fun q_ e_=>?_;obtain⟨g0,g1,g2,g3,g4,g5⟩:=f3 b hb;subst e_;refine⟨hn b hb,zp (a1 b hb),?_, .inl hb,(I4.ok.exf b hb).2,fun p hp=>g5 p (by simpa using hp)⟩
   exact I4.ok.exfs b hb
  rcases turn i n acc H5 w5 with⟨stop,q⟩|⟨go,step⟩
  . refine thn (T.done (XC X scope NC a.heap.objs.size a H3 fp (X.pn++pins)) rfl rfl rfl hcalm i [] s5 _ H5 (fun _ _=>False) a5 (aT a7) bb stop) fun r s6 ⟨hr,I6⟩=>?_;subst hr;exact fin s6 _ H5 I6 q
  . refine thn (T.item (XC X scope NC a.heap.objs.size a H3 fp (X.pn++pins)) rfl rfl rfl hcalm i [] s5 _ H5 (fun _ _=>False) a5 (aT a7) bb go) fun r s6 ⟨u,hr,h6⟩=>?_;subst hr;refine thn h6 fun _ s7 ⟨x,H7,I7,r7,y7,a2,dj⟩=>?_;have cp:=I7.pinned (aT dj) (T.obj _ _ a2);refine thn (hg _ _ _ _ _ _ s7 _ H7 x u _ cp r7 (step x H7 y7)) fun _ s8 ⟨σ8,H8,I8,au,q8⟩=>?_;refine thn (ht _ _ _ _ _ _ s8 σ8 H8 _ I8 q8) fun ok s9 ⟨H9,I9,q9⟩=>?_
    have again:∀ {σ':St} {H':Hp} {s':Shared} {l:List (Key×V)} {m':Nat},Inv (XC X scope NC a.heap.objs.size a H3 fp (X.pn++pins)) ([]++dy fp s7.heap) σ' H' s'->Ext (subS mp σ) σ'->m' < n->W (i+1) m' l H'->
     ∃m,m < n/\∃i acc σ' H',Inv (XC X scope NC a.heap.objs.size a H3 fp (X.pn++pins)) [] σ' H' s'/\Ext (subS mp σ) σ'/\tn i s'.heap/\(∀b∈fp,H' b=none)/\W i m acc H':=by
     intro σ' H' s' l m' I' bC t w';refine⟨m',t,i+1,l,σ',H',I'.unpinned,bC,T.keep _ _ _ a2 fun b hb o e=>(I'.pin (b,o) (zm _ (zm _ (ba hb e)))).1,fun b hb=>?_,w'⟩;obtain⟨o,e,d⟩:=T.obj _ _ a2 b hb;exact(I'.pin (b,o) (zm _ (zm _ (ba hb e)))).2.1
    cases ok with
    |false=>
     rw[if_neg zo]at q9;rw[if_neg zo];obtain⟨m',t,w'⟩:=q9;exact again I9 au t w'
    |true=>
     rw[if_pos rfl]at q9;rw[if_pos rfl];refine thn (hkx _ _ _ _ _ _ s9 σ8 H9 _ I9 q9) fun kv c3 ⟨y,b6,b7,b8,k,ek,qv⟩=>?_;subst ek;refine thn (he _ _ _ _ _ _ c3 σ8 b6 _ b7 qv) fun v d0 ⟨z,dI,bx,bI,af,hz,m',t,w'⟩=>?_;refine hZq fun q_ e_=>?_;obtain⟨z1,cI,dH,aC,bT⟩:=nK bx.hok af;subst e_;have cm:dH.length<=sizeLine:=by rw[<-aC.length];exact z1
     have bR:(putK acc k z).length<=sizeLine:=by have:=fS acc k z;omega
     refine wpAny_dictSet_pairs (hsz:=cm) (nB b8) bT fun h' bj hs=>?_;have c2:∃q,h'.get? D=some q:=let ⟨q,_,_,hq,_⟩:=bj;⟨q,hq⟩;exact again (fe bx (by rw[af];exact True.intro) hs c2 (tq bR cI (aC.put k bI) bj)) au t w'
 exact codeAny_compStart_dict loop (T.self _ 0 _ _ _ bw loop)
end
end L2
namespace L2
section
open PySem
variable{prog:Program}{w:World}{A:Around}{R:Result->Shared->Prop}{s:Shared}
end
open PySem PySem.Spec PyProof.Rows
section
variable{X:Cx}{pins:List (Addr×Obj)}{σ:St}{H:Hp}{s:Shared}
variable{elt target iter t2 i2:Expr}{scope:Scope}{NC:List Str}{mp:List (Option Nat)}{pos:Pos}{wi:TI}{g:TG}{wi2:TI}{g2:TG}{te:TE}
end
end L2
namespace Dj
open PySem PySem.Spec PySem.W PyProof.Rows L2 Tre
def RawD(h:Heap)(d:Addr)(es:Array DictEntry)(ep:Nat):Prop:=∃o,h.get? d=some o/\o.ExactDict/\o.data= .dict es ep
theorem RawD.kp{h h':Heap}{d:Addr}{es:Array DictEntry}{ep:Nat}(x:RawD h d es ep)(e:∀o,h.get? d=some o->h'.get? d=some o):RawD h' d es ep:=by
 obtain⟨o,h1,h2⟩:=x;exact⟨o,e o h1,h2⟩
theorem RawD.lt{h:Heap}{d:Addr}{es:Array DictEntry}{ep:Nat}(x:RawD h d es ep):d < h.objs.size:=by
 obtain⟨o,h1,_⟩:=x;exact Heap.lt_size h1
section
variable{prog:Program}{w:World}{A:Around}{E:Value->Shared->Prop}{s:Shared}{d it:Addr}{es:Array DictEntry}{ep:Nat}
theorem RawD.ty(x:RawD s.heap d es ep):s.TypeIs (.ref d) "dict":=by
 obtain⟨o,h1,h2,_⟩:=x;exact⟨o,h1,h2.1⟩
theorem qY{Q:Value->Shared->Prop}(hd:(d==sysModules)=false)(hm:RawD s.heap d es ep)(hQ:Q (.ref s.heap.objs.size) {s with heap:=s.heap.push {cls:= .type "dict_keyiterator",data:= .fields #[.ref d, .int 0 0, .int es.size 0, .int ep 0]}}):wpAny (model prog w) A (pyIter (.ref d)) Q E s:=by
 have b:=hm.ty;obtain⟨o,ho,hc,a⟩:=hm;refine wpAny_pyIter_slot b F.slot_dict_iter (wpAny_call_entry F.slot_dict_iter b F.entry_dict_iter (A:=A) ?_ (F.args_dict_iter_1 _));unfold Builtin.«dict.__iter__»;refine wpAny_bind ?_;unfold Builtin.Dict.dictSlotNone;refine wpAny_bind (wpAny_notOrdered_dict b ?_);show wpAny _ _ (pure (Value.ref d)) _ _ s;refine wpAny_pure ?_;show wpAny _ _ (Builtin.Dict.showsAll d >>=_) _ _ s;unfold Builtin.Dict.showsAll;rw[if_neg (by rw[hd];exact zo)];refine wpAny_bind (wpAny_pure ?_)
 refine wpAny_bind (wpAny_dictEntries ho a (wpAny_bind (wpAny_dictEpoch ho a ?_)));refine wpAny_bind (wpAny_newObj_type (wpAny_pure ⟨_,rfl,"dict_keyiterator",_,⟨_,Heap.get?_push_size _ rfl,rfl⟩,F.slot_dict_keyiterator_next.lookup,by simpa [rawInt]using hQ⟩))
theorem qX{i:Nat}{Q:Option Value->Shared->Prop}(hit:s.heap.IsKeyIter it d i es.size ep)(hm:RawD s.heap d es ep)(hi:i < es.size)(hQ:∀h',h'.IsKeyIter it d (i+1) es.size ep->Heap.SameBut it s.heap h'->Q (some es[i].key) {s with heap:=h'}):wpAny (model prog w) A (pyNext (.ref it)) Q E s:=by
 obtain⟨o,ho,hc,hd⟩:=id hit;obtain⟨g,e,f,c⟩:=id hm;have b:Builtin.Dict_items.ownsTuple "dict_keyiterator"=false:=by decide
 unfold pyNext;refine wpAny_bind (wpAny_attempt (wpAny_callSpecial?_slot (name:=Str.ofString "__next__") hit.typeIs F.slot_dict_keyiterator_next (wpAny_call_entry F.slot_dict_keyiterator_next hit.typeIs F.entry_dict_keyiterator_next ?_ (F.args_dict_keyiterator_next_1 _))));refine wpAny_bind (wpAny_pure (wpAny_bind (wpAny_bind ?_)))
 first|refine wpAny_bind (wpAny_typeNameOfWhole_keyiter hit.typeIs (wpAny_pure (wpAny_bind (wpAny_fieldsOf ho hd ?_))))|refine wpAny_bind (wpAny_typeNameOf_keyiter hit.typeIs (wpAny_pure (wpAny_bind (wpAny_fieldsOf ho hd ?_))))
 simp only[b,Ag,if_false];show wpAny _ _ (if (Value.ref d==Value.none)=true then _ else _) _ _ s;rw[if_neg (show¬((Value.ref d==Value.none)=true)from zo)];refine wpAny_bind (wpAny_pure (wpAny_bind (wpAny_dictEntries e c ?_)));rw[if_neg (by simp)];refine wpAny_bind (wpAny_pure (wpAny_bind (wpAny_dictEpoch e c ?_)));rw[if_neg (by simp)];refine wpAny_pure ?_
 simp only[show¬((i:Int) < 0)from by omega,if_false,Ad,zQ hi];refine wpAny_bind ?_
 first|refine wpAny_bind (wpAny_typeNameOfWhole_keyiter hit.typeIs (wpAny_pure (wpAny_bind (wpAny_isOneOf_keyiter hit.typeIs ?_))))|refine wpAny_bind (wpAny_typeNameOf_keyiter hit.typeIs (wpAny_pure (wpAny_bind (wpAny_isOneOf_keyiter hit.typeIs ?_))))
 show wpAny _ _ (setField (.ref it) 1 (rawInt ((i:Int)+1)) >>=_) _ _ s;refine wpAny_bind (wpAny_setField ho hd (by simp) ?_)
 have a:(s.heap.update it (Obj.mapFields (·.setIfInBounds 1 (rawInt ((i:Int)+1))))).IsKeyIter it d (i+1) es.size ep:=⟨_,Heap.get?_update_self _ ho (Obj.isFreed_of_fields (Obj.data_mapFields hd _)),(Obj.cls_mapFields ..).trans hc,by rw[Obj.data_mapFields hd];simp[rawInt]⟩
 refine wpAny_bind (wpAny_holding (wpAny_bind (wpAny_isOneOf_keyiter (s:= {s with heap:=s.heap.update it (Obj.mapFields (·.setIfInBounds 1 (rawInt ((i:Int)+1))))}) a.typeIs ?_)));show wpAny _ _ (pure es[i].key) _ _ _;exact wpAny_pure (wpAny_pure ⟨_,rfl,wpAny_pure (hQ _ a (Heap.SameBut.update ..))⟩)
theorem ut{i:Nat}{Q:Option Value->Shared->Prop}(hh:A.handled=none)(hit:s.heap.IsKeyIter it d i es.size ep)(hm:RawD s.heap d es ep)(hi:es.size<=i)(hQ:∀h',Heap.ExtBut it s.heap h'->Q none {s with heap:=h'}):wpAny (model prog w) A (pyNext (.ref it)) Q E s:=by
 obtain⟨o,ho,hc,hd⟩:=id hit;obtain⟨h,f,g,e⟩:=id hm;have c:Builtin.Dict_items.ownsTuple "dict_keyiterator"=false:=by decide
 unfold pyNext;refine wpAny_bind (wpAny_attempt (wpAny_callSpecial?_slot (name:=Str.ofString "__next__") hit.typeIs F.slot_dict_keyiterator_next (wpAny_call_entry F.slot_dict_keyiterator_next hit.typeIs F.entry_dict_keyiterator_next ?_ (F.args_dict_keyiterator_next_1 _))));refine wpAny_bind (wpAny_pure (wpAny_bind (wpAny_bind ?_)))
 first|refine wpAny_bind (wpAny_typeNameOfWhole_keyiter hit.typeIs (wpAny_pure (wpAny_bind (wpAny_fieldsOf ho hd ?_))))|refine wpAny_bind (wpAny_typeNameOf_keyiter hit.typeIs (wpAny_pure (wpAny_bind (wpAny_fieldsOf ho hd ?_))))
 simp only[c,Ag,if_false];show wpAny _ _ (if (Value.ref d==Value.none)=true then _ else _) _ _ s;rw[if_neg (show¬((Value.ref d==Value.none)=true)from zo)];refine wpAny_bind (wpAny_pure (wpAny_bind (wpAny_dictEntries f e ?_)));rw[if_neg (by simp)];refine wpAny_bind (wpAny_pure (wpAny_bind (wpAny_dictEpoch f e ?_)));rw[if_neg (by simp)];refine wpAny_pure ?_
 simp only[show¬((i:Int) < 0)from by omega,if_false,Ad,Array.getElem?_eq_none hi];refine wpAny_bind ?_
 first|refine wpAny_bind (wpAny_typeNameOfWhole_keyiter hit.typeIs (wpAny_pure ?_))|refine wpAny_bind (wpAny_typeNameOf_keyiter hit.typeIs (wpAny_pure (A:=A.in1) ?_))
 show wpAny _ _ (setField (.ref it) 0 .none >>=_) _ _ s;refine wpAny_bind (wpAny_setField ho hd (by simp) ?_)
 show wpAny _ _ (newExc (.type "StopIteration") [] >>=_) _ _ _;refine wpAny_bind ?_;simp only[newExc,newTuple];refine wpAny_bind (wpAny_newObj_type (wpAny_bind (m:=firstArgMember _ _) (wpAny_of_eq (a:=Value.none) (by first|rfl|(simp only[firstArgMember];rfl)) (wpAny_newObj_type ?_ (by size_fits)))) (by size_fits))
 simp only[raiseNew];refine wpAny_bind (wpAny_handled ?_);rw[show A.in1.handled=none from hh];refine wpAny_bind (wpAny_pure (wpAny_throw ?_));refine wpAny_bind (wpAny_isInstance (T:="StopIteration") (b:=true) ⟨_,Heap.get?_push_size _ rfl,rfl⟩ isSubtype_stop ?_);exact wpAny_pure (hQ _ (((Heap.SameBut.update ..).extBut.push _).push _))
theorem ow(hh:A.handled=none)(I:Addr)(hne:d≠I):Walks prog w A I [I,d] [I] es.size (fun i v=>∃e,es[i]?=some e/\v=e.key) (fun i h=>h.IsKeyIter I d i es.size ep/\RawD h d es ep) where
 sub:=fun b hb=>by simp at hb;simp[hb]
 frame:=fun _ _ _ st hk=>⟨st.1.at fun o e=>hk I (by simp) o e,st.2.kp fun o e=>hk d (by simp) o e⟩
 item:=fun i s Q E hi st f=>by
  refine qX st.1 st.2 hi fun h' a c=>?_;exact f _ h' s.toks ⟨es[i],by simp[hi],rfl⟩ ⟨a,st.2.kp fun o e=>c.extBut d o hne e⟩ fun b o hb e=>c.extBut b o (fun h=>hb (by simp[h])) e
 done:=fun s Q E st f=>ut hh st.1 st.2 (z4 _) fun h' g=>f h' s.toks fun b o hb e=>g b o (fun h=>hb (by simp[h])) e
 self:=fun _ _ _ _ st f=>wpAny_pyIter_keyiter st.1 f
theorem ur(lo:(d==sysModules)=false):KdlSrc prog w "dict" d d es.size (fun i v=>∃e,es[i]?=some e/\v=e.key) (fun h=>RawD h d es ep) where
 type:=fun _ hm=>hm.ty
 there:=fun _ hm=>⟨hm.lt,hm.lt⟩
 keep:=fun _ _ hm hk=>hm.kp fun o e=>hk d (.inl rfl) o e
 notList:=by decide
 notTuple:=by decide
 hint:=fun _ _ _ _ hm hq=>kdl_hint_dict hm.ty hq
 iter:=fun _ _ hh hm=>⟨_,_,(fun _ _ hq=>qY lo hm hq),ow hh _ (zp hm.lt),⟨⟨_,Heap.get?_push_size _ rfl,rfl,rfl⟩,hm.kp fun o e=>Heap.get?_push_of_some _ e⟩⟩
end
open PySem PySem.Spec PySem.W PyProof.Rows L2 Tre Srt
section
variable{prog:Program}{w:World}{A:Around}{E:Value->Shared->Prop}{s:Shared}{T:String}{r d:Addr}{n:Nat}{P:Nat->Value->Prop}{OK:Heap->Prop}
theorem fX{Q:List Value->Shared->Prop}(K:KdlSrc prog w T r d n P OK)(hh:A.handled=none)(hok:OK s.heap)(hn:n<=sizeLine)(hQ:∀h' tk (acc:Array Value),(∀b o,s.heap.get? b=some o->h'.get? b=some o)->s.heap.objs.size < h'.objs.size->ItemsOf P acc n->Q acc.toList {s with heap:=h',toks:=tk}):wpAny (model prog w) A (collect (.ref r)) Q E s:=by
 have c:=K.there _ hok;unfold collect;refine wpAny_bind (wpAny_runValue (codeAny_builtin PySem.F.entry_proto_collect ?_));rw[Around.under_plainId PySem.F.plain_proto_collect _];show wpAny _ A.in1 (newList [] >>=fun l=>again (.builtin "list.__iadd__" ⟨[l, .ref r],[]⟩)) _ _ s;refine wpAny_bind (wpAny_newObj_type (wpAny_pure ⟨plainId_quiet PySem.F.plain_list_iadd _,codeAny_builtin PySem.F.entry_list_iadd ?_⟩));rw[Around.under_plainId PySem.F.plain_list_iadd _];have i:(s.heap.push {cls:= .type "list",data:= .seq ([]:List Value).toArray}).get? s.heap.objs.size=some {cls:= .type "list",data:= .seq ([]:List Value).toArray}:=Heap.get?_push_size _ rfl;show wpAny _ A.in1 (Builtin.List.listExtendWith (.ref s.heap.objs.size) (.ref r) (.ref s.heap.objs.size)) _ _ _
 refine kdl_extend (R:=fun r' s'=>match r' with
  | .ok (.ret v)=>wpAny (model prog w) A (match v with
   | .ref a=>do match (<-load a).data with
    | .seq xs _=>pure xs.toList
    |_=>unsupported "internal:collect"
   |_=>unsupported "internal:collect") Q E s'
  | .ok _=>False
  | .error e=>E e s') (s:= {s with heap:=s.heap.push {cls:= .type "list",data:= .seq ([]:List Value).toArray}}) K hh (K.keep _ _ hok fun b _ o e=>Heap.get?_push_of_some _ e) _ (Nat.ne_of_gt c.1) (Nat.ne_of_gt c.2) _ _ i (fun h' tk g j hk h f=>?_) hn
 show wpAny _ A (load s.heap.objs.size >>=_) _ _ _;refine wpAny_bind (wpAny_load h (wpAny_pure (hQ h' tk g (fun b o e=>hk b o (zp (Heap.lt_size e)) (Heap.get?_push_of_some _ e)) (Heap.lt_size h) f)))
end
section
variable{prog:Program}{w:World}{A:Around}{E:Value->Shared->Prop}{s:Shared}{lt:Nat->Nat->Bool}{κ:SortKind}
theorem ot{l:Addr}{vs:List Value}{Q:Value->Shared->Prop}(O:Ord lt)(h64:vs.length < 64)(hcol:∀Q':List Value->Shared->Prop,(∀h' tk,(∀b o,s.heap.get? b=some o->h'.get? b=some o)->s.heap.objs.size < h'.objs.size->Q' vs {s with heap:=h',toks:=tk})->wpAny (model prog w) A.in1 (collect (.ref l)) Q' E s)(hkind:2<=vs.length->∀h' tk,(∀b o,s.heap.get? b=some o->h'.get? b=some o)->∀(E':Value->Shared->Prop) (R:SortKind->Shared->Prop),R κ {s with heap:=h',toks:=tk}->wpAny (model prog w) A.in1.in1 (keyKind' vs.toArray) R E' {s with heap:=h',toks:=tk})(hask:∀h' tk,(∀b o,s.heap.get? b=some o->h'.get? b=some o)->∀i j (R:Bool->Shared->Prop),i < vs.length->j < vs.length->R (lt i j) {s with heap:=h',toks:=tk}->kas_ask prog w A.in1.in1 κ vs i j R {s with heap:=h',toks:=tk})(h:∀p:Array Nat,Pm vs.length p->Up lt p vs.length->∀h' tk D e,(∀b o,s.heap.get? b=some o->h'.get? b=some o)->s.heap.objs.size<=D->h'.get? D=some (seqObj "list" (List.toArray (p.toList.map fun i=>vs.getD i Value.none)) e)->Q (.ref D) {s with heap:=h',toks:=tk}):
 wpAny (model prog w) A (call (.builtin "sorted") [.ref l]) Q E s:=by
 refine Calls.call_function_entry kind_sorted plain_sorted entry_sorted (args_sorted1 _) ?_;unfold Builtin.«sorted»;refine wpAny_bind (m:=checkCount "sorted" 1 1 _) (wpAny_pure (wpAny_bind (hcol _ fun h1 tk k1 sz=>?_)));refine wpAny_bind (wpAny_newList (s:= {s with heap:=h1,toks:=tk}) ?_ (by rw[sizeLine_eq];omega))
 have a:(h1.push (seqObj "list" vs.toArray 0)).get? h1.objs.size=some (seqObj "list" vs.toArray 0):=Heap.get?_push_size _ rfl;have keep:∀b o,s.heap.get? b=some o->(h1.push (seqObj "list" vs.toArray 0)).get? b=some o/\b≠h1.objs.size:=fun b o q=>⟨Heap.get?_push_of_some _ (k1 b o q),zp (Heap.lt_size (k1 b o q))⟩;show wpAny _ _ _ _ _ {s with heap:=h1.push (seqObj "list" vs.toArray 0),toks:=tk}
 refine wpAny_bind (wpAny_holding (wpAny_call_entry slot_list_sort ⟨_,a,rfl⟩ entry_list_sort (iw (s:= {s with heap:=h1.push (seqObj "list" vs.toArray 0),toks:=tk}) (lt:=lt) (κ:=κ) O a h64 (fun h2 h' st R c=>hkind h2 h' tk (fun b o e=>st b o (keep b o e).2 (keep b o e).1) _ R c)
  (fun h' st i j R hi f c=>hask h' tk (fun b o e=>st b o (keep b o e).2 (keep b o e).1) i j R hi f c) fun p d g=>⟨_,rfl,?_⟩) (args_list_sort _)))
 obtain⟨e,he⟩:=sortedHeap_at (out:=List.toArray (p.toList.map fun i=>vs.getD i Value.none)) a;refine wpAny_pure ⟨_,rfl,h p d g _ tk _ e (fun b o q=>?_) (Aj sz) he⟩;rw[sortedHeap_old (keep b o q).2 (Heap.lt_size (keep b o q).1)];exact(keep b o q).1
end
theorem ju{prog:Program}{w:World}{A:Around}{s:Shared}{fin:Bool}{Q:Bool->Shared->Prop}:∀ {as bs:List Value} {q:List (Bool×Bool)} {i:Nat},0 < i->bD A s as bs q->Q (lexV fin q) s->KatLex prog w A true fin Q (as.zip bs) i s
 | [],_,q,i,_,h,hq=>by
  unfold bD at h;subst h;rw[List.zip_nil_left];exact kat_nil hq
 |_::_,[],q,i,_,h,hq=>by
  unfold bD at h;subst h;rw[List.zip_nil_right];exact kat_nil hq
 |a::as,b::bs,[],i,_,h,hq=>h.elim
 |a::as,b::bs,(e,l)::q,i,h0,h,hq=>by
  obtain⟨h1,h2,h3⟩:=h;rw[Al];refine kat_cons (h1 prog w _ _ ?_)
  cases e with
  |true=>exact kat_yes (ju (by omega) (h3 rfl) hq)
  |false=>
   refine kat_no ?_
   have c:(true&&i==0)=false:=by
    cases i with
    |zero=>omega
    |succ i=>rfl
   rw[c];exact kat_one a b (h2 rfl prog w _ _ hq)
theorem uU{prog:Program}{w:World}{A:Around}{s:Shared}{fin:Bool}{Q:Bool->Shared->Prop}{x y:Str}{t u:Tok}{as bs:List Value}{q:List (Bool×Bool)}(h:bD A s as bs q)(hq:Q (lexV fin ((x==y,decide (x.cps.toList < y.cps.toList))::q)) s):KatLex prog w A true fin Q ((Value.str x t::as).zip (Value.str y u::bs)) 0 s:=by
 rw[Al];refine kat_cons (SeqAt.EqAt.str_str x t y u prog w _ _ ?_)
 cases e:(x==y)with
 |true=>
  rw[e]at hq;exact kat_yes (ju (by decide) h hq)
 |false=>
  rw[e]at hq;refine kat_no ?_;exact oneLt_str hq
def Hs(t:Tr):Prop:=∃x r,t= .tup (.str x::r)
section
variable{X:Cx}{pins:List (Addr×Obj)}{σ:L2.St}{H:Hp}{s:Shared}
theorem ny(I:Inv X pins σ H s):∀ {vs:List V} {ts:List Tr} {as:List Value},TrsAt H vs ts->Vals vs as->(∀t∈ts,Hs t)->∃fs,KatTups s.heap as fs/\fs.length=as.length/\∀v∈fs,∃(x:Str) (t:Tok),v= .str x t
 |vs,[],as,h,r,_=>by
  unfold TrsAt at h;subst h;cases r;exact⟨[], .nil,rfl,fun v m=>by cases m⟩
 |vs,t::ts,as,h,r,hh=>by
  obtain⟨v,i,rfl,h1,h2⟩:=h.inv
  cases r with
  |cons r1 r2=>
   obtain⟨fs,f,d,c⟩:=ny I h2 r2 fun u m=>hh u (z5 _ m);obtain⟨x,j,rfl⟩:=hh t z6;unfold TrAt at h1;obtain⟨a,ws,rfl,g,k⟩:=h1;cases r1;obtain⟨y,l,rfl,k1,k2⟩:=k.inv;unfold TrAt at k1;subst k1;obtain⟨bs,o,n,b,ho,hc,hd⟩:=c8 I g
   cases b with
   |cons b p=>
    obtain⟨tk,rfl⟩:=b;refine⟨_,KatTups.cons ho hc hd rfl f,by simp[d],fun v m=>?_⟩
    rcases zc.mp m with e|m
    . exact⟨x,tk,e⟩
    . exact c v m
def r9(P:Program)(w:World)(K:PySem.W.Frag):List V->Hp->VK->Prop:=fun xs H Q=>∃(a:Addr) (kvs:List Ent) (ts:List Tr),xs= [.ref a]/\DJ P w K H a kvs/\TrsAt H (kvs.map fun e=>V.ref e.2.1) ts/\ts.length < 64/\(∀t∈ts,Hs t/\t.pure/\t.depth<=40)/\(∀t∈ts,∀u∈ts,Cm t u)/\
 ∀(D:Addr) (ws:List V) (us:List Tr),H D=none->us.Perm ts->TrsAt H ws us->(∀(i j:Nat) (t u:Tr),i<=j->us[i]?=some t->us[j]?=some u->ltT u t=false)->Q (.ref D) (upd H D (.lst ws))
theorem uq{kvs:List Ent}{xs:List (List Tk.KT×Addr×Value)}(r:RE kvs xs):(kvs.map fun e=>V.ref e.2.1)=xs.map fun x=>V.ref x.2.1:=by
 induction r with
 |nil=>rfl
 |cons h _ a=>rw[zj,zj,a,h.2.1]
theorem o9(xs:List (List Tk.KT×Addr×Value)):Vals (xs.map fun x=>V.ref x.2.1) (xs.map fun x=>Value.ref x.2.1):=by
 induction xs with
 |nil=>exact .nil
 |cons x r a=>exact .cons rfl a
end
end Dj
namespace L2
open PySem PySem.Spec PyProof.Rows
section
variable{X:Cx}
def yF:V->List V->Hp->VK->Prop:=fun x vs H Q=>∃a kvs k v,x= .ref a/\vs= [kV k,v]/\H a=some (.dK kvs)/\kvs.length < sizeLine/\
 (∀z,valV kvs k=some z->Q z H)/\(valV kvs k=none->Q v (upd H a (.dK (kvs++ [(k,v)]))))
theorem iu:MtM X "dict.setdefault" yF:=by
 intro pins s σ H x vs u us Q I i rv h;obtain⟨a,kvs,k,v,rfl,rfl,f,hz,h1,h2⟩:=h;cases i;obtain⟨j,g,rfl,r1,r2⟩:=rv.two;obtain⟨z,hd,ws,c,dd⟩:=nK I.hok f
 refine call_meetsIn PySem.F.slot_dict_setdefault dd.typeIs PySem.F.entry_dict_setdefault (PySem.F.args_dict_setdefault_3 _ _ _) (kt_meets_setdefault (aL X.prog X.w) a (nB r1) hd g)
  ⟨ws,dd,by rw[<-c.length];exact z,fun q hq=>?_,fun hq h' d hs=>?_⟩
 . have b:=c.val k;rw[hq]at b
   cases e:valV kvs k with
   |none=>rw[e]at b;exact b.elim
   |some y=>rw[e]at b;exact⟨y,H,I.tok _,b,h1 y e⟩
 . have b:=c.val k;rw[hq]at b
   cases e:valV kvs k with
   |some y=>rw[e]at b;exact b.elim
   |none=>
    have he:∃q,h'.get? a=some q:=let ⟨q,_,_,hq,_⟩:=d;⟨q,hq⟩;have hp:=c.put k r2;rw[rn v e]at hp;exact⟨v,_,fe I (by rw[f];exact True.intro) hs he (tq (by rw[zK,List.length_singleton];omega) hd hp d),r2,h2 e⟩
def bH(v d:Addr):HO:= .ext fun h=>h.IsValuesView v d
theorem m8{P:Program}{w:World}{H:Hp}{h:Heap}{v d:Addr}(x:h.IsValuesView v d):ObjOk P w H h v (bH v d):=by
 obtain⟨o,e,r⟩:=x;exact⟨⟨o,e,r⟩,⟨_,e⟩,fun _ _ ⟨o',y,c⟩ k=>⟨o',k _ y,c⟩⟩
def uu:V->List V->Hp->VK->Prop:=fun x vs H Q=>∃a kvs,x= .ref a/\vs= []/\H a=some (.dK kvs)/\∀v,H v=none->Q (.ref v) (upd H v (bH v a))
theorem oF:MtM X "dict.values" uu:=by
 intro pins s σ H x vs u us Q I f rv h;obtain⟨a,kvs,rfl,rfl,c,q⟩:=h;cases f;cases rv.zero;obtain⟨z,hd,ws,d,dd⟩:=nK I.hok c;refine call_meetsIn PySem.F.slot_dict_values dd.typeIs PySem.F.entry_dict_values (PySem.F.args_dict_values_1 _) (meets_dict_values (aL X.prog X.w) a hd) ⟨⟨ws,dd⟩,?_⟩;exact⟨.ref _,_,I.laid (t':=s.toks) (fun b ob e=>Heap.get?_push_of_some _ e) (z4 _) (m8 ⟨_,Heap.get?_push_size _ rfl,rfl,rfl⟩),rfl,q _ (I.hok.fresh (z4 _))⟩
end
end L2
namespace Dj
open PySem PySem.Spec PySem.W PyProof.Rows L2 Tre Srt
section
variable{X:Cx}{pins:List (Addr×Obj)}{σ:L2.St}{H:Hp}{s:Shared}
def SrQ(H:Hp)(ts:List Tr)(Q:VK):Prop:=∀(D:Addr) (ws:List V) (us:List Tr),H D=none->us.Perm ts->TrsAt H ws us->(∀(i j:Nat) (t u:Tr),i<=j->us[i]?=some t->us[j]?=some u->ltT u t=false)->Q (.ref D) (upd H D (.lst ws))
theorem dZ{κ:SortKind}{Q:VK}{a:Addr}{as:List Value}{vs:List V}{ts:List Tr}(I:Inv X pins σ H s)(rv:Vals vs as)(hT:TrsAt H vs ts)(hlen:ts.length < 64)(hcol:∀(E:Value->Shared->Prop) (Q':List Value->Shared->Prop),(∀h' tk,(∀b o,s.heap.get? b=some o->h'.get? b=some o)->s.heap.objs.size < h'.objs.size->Q' as {s with heap:=h',toks:=tk})->wpAny (model X.prog X.w) X.A.in1 (collect (.ref a)) Q' E s)(hkind:∀s',Inv X pins σ H s'->2<=as.length->∀(E':Value->Shared->Prop) (R:SortKind->Shared->Prop),R κ s'->wpAny (model X.prog X.w) X.A.in1.in1 (keyKind' as.toArray) R E' s')(hask:∀s',Inv X pins σ H s'->∀(i j:Nat) (t u:Tr) (v v':V) (a b:Value),t∈ts->u∈ts->TrAt H v t->TrAt H v' u->RelV v a->RelV v' b->as.getD i Value.none=a->as.getD j Value.none=b->∀R:Bool->Shared->Prop,R (ltT t u) s'->kas_ask X.prog X.w X.A.in1.in1 κ as i j R s')(q:SrQ H ts Q):wpAny (model X.prog X.w) X.A (call (.builtin "sorted") [.ref a]) (EP X pins σ Q) X.xe s:=by
 have l1:=hT.len;have l2:=rv.length;have O:Srt.Ord fun i j=>ltT (ts.getD i .non) (ts.getD j .non):=⟨fun a b h=>ka h,fun a b c h1 h2=>xh h1 h2⟩
 have at_:∀i,i < as.length->∃t v a,ts.getD i .non=t/\t∈ts/\TrAt H v t/\RelV v a/\as.getD i Value.none=a:=fun i hi=>by
  have d:i < ts.length:=by omega
  obtain⟨v,e1,e2⟩:=hT.get (i:=i) (t:=ts[i]) (yZ d);obtain⟨a,e3,e4⟩:=rv.get e1;exact⟨ts[i],v,a,by rw[zd,yZ d];rfl,A7 d,e2,e4,by rw[zd,e3];rfl⟩
 refine ot (κ:=κ) (vs:=as) O (by omega) (fun Q' y=>hcol _ Q' y) (fun h2 h' tk kp E' R g=>hkind _ (I.kept (t':=tk) kp) h2 E' R g) (fun h' tk kp i j R hi r g=>?_) fun p hp x h' tk D e kp sz he=>?_
 . obtain⟨t,v,a,et,mt,ht,ra,z⟩:=at_ i hi;obtain⟨u,v',b,eu,mu,l,rb,k⟩:=at_ j r;rw[et,eu]at g;exact hask _ (I.kept (t':=tk) kp) i j t u v v' a b mt mu ht l ra rb z k R g
 . have f:∀i∈p.toList,i < ts.length:=fun i m=>by
    have:=zZ.mp (List.Perm.mem_iff hp |>.mp m);omega
   refine⟨.ref D,upd H D (.lst (p.toList.map fun i=>vs.getD i .non)),I.laid (t':=tk) kp sz ?_,rfl,?_⟩
   . refine⟨?_,p.toList.map fun i=>as.getD i Value.none,e,Vals.map rv fun i m=>by have:=f i m;omega,he⟩
     rw[yY,zO,hp.size];have:(64:Nat)<=sizeLine:=by decide +kernel
     omega
   . refine q _ _ (p.toList.map fun i=>ts.getD i .non) (I.hok.fresh sz) ?_ (TrsAt.map hT f) fun i j t u n e1 e2=>?_
     . have:=List.Perm.map (fun i=>ts.getD i Tr.non) hp;rw[show as.length=ts.length by omega,fu]at this
       exact this
     . rw[z7]at e1 e2;obtain⟨a,z,rfl⟩:=zf.mp e1;obtain⟨b,k,rfl⟩:=zf.mp e2
       have r:j < as.length:=by
        have:=(zb.mp k).1;rw[zO,hp.size]at this;exact this
       have:=x i j n r;rw[dF,dF,<-A5,<-A5,z,k]at this;exact this
theorem lS{Q:VK}{a:Addr}{as:List Value}{vs:List V}{ts:List Tr}(hu:X.A.units+60 < cLine)(I:Inv X pins σ H s)(rv:Vals vs as)(hT:TrsAt H vs ts)(hlen:ts.length < 64)(hts:∀t∈ts,Hs t/\t.pure/\t.depth<=40)(hcm:∀t∈ts,∀u∈ts,Cm t u)(hcol:∀(E:Value->Shared->Prop) (Q':List Value->Shared->Prop),(∀h' tk,(∀b o,s.heap.get? b=some o->h'.get? b=some o)->s.heap.objs.size < h'.objs.size->Q' as {s with heap:=h',toks:=tk})->wpAny (model X.prog X.w) X.A.in1 (collect (.ref a)) Q' E s)(q:SrQ H ts Q):wpAny (model X.prog X.w) X.A (call (.builtin "sorted") [.ref a]) (EP X pins σ Q) X.xe s:=by
 have l1:=hT.len;have l2:=rv.length;refine dZ (κ:=tuples' true) I rv hT hlen hcol (fun s' k h2 E' R hR=>?_) (fun s' k i j t u v v' a b mt mu ht r ra rb ea eb R hR=>?_) q
 . skip
   obtain⟨fs,k1,k2,k3⟩:=ny k hT rv fun t m=>(hts t m).1;refine kat_kind (T:=Value.type "str") k1 (by omega) (fun v m=>?_) (by decide +kernel) ?_
   . obtain⟨x,t,rfl⟩:=k3 v m;exact .now
   . rw[show(Value.type "str" !=Value.type "tuple")=true by decide +kernel]
     exact hR
 . skip
   have g:=hcm t mt u mu;obtain⟨⟨x1,r1,rfl⟩,p1,d1⟩:=hts t mt;obtain⟨⟨f,r2,rfl⟩,p2,d2⟩:=hts u mu;unfold TrAt at ht r;obtain⟨x0,a6,rfl,g0,g1⟩:=ht;obtain⟨y0,bi,rfl,g2,g3⟩:=r;cases ra;cases rb;obtain⟨bb,o,n,q3,ho,bg,aC⟩:=c8 k g0;obtain⟨bj,o',n',q4,af,a4,a3⟩:=c8 k g2;have z0:=g1.len;have z1:=g3.len;have z2:=q3.length;have z3:=q4.length;obtain⟨y1,a5,rfl,w1,w2⟩:=g1.inv;obtain⟨y2,a7,rfl,w3,w4⟩:=g3.inv;unfold TrAt at w1 w3;subst w1 w3
   cases q3 with
   |cons q3 au=>
    cases q4 with
    |cons q4 aT=>
     obtain⟨l,rfl⟩:=q3;obtain⟨y,rfl⟩:=q4;unfold Tr.depth at d1;unfold Trs.depth at d1;unfold Tr.pure at p1;unfold Trs.pure at p1;unfold kas_ask;rw[ea,eb];refine kat_lt (b:=true) ho aC af a3 ?_;rw[Aw,Aw];have p:X.A.in1.in1.units+40+1 < cLine:=by show X.A.units+1+1+40+1 < cLine;omega
     have e:∀q,lexV (decide ((Value.str x1 l::_).toArray.size < (Value.str f y::_).toArray.size)) ((x1==f,decide (x1.cps.toList < f.cps.toList))::q)=lexV (decide ((Tr.str x1::r1).length < (Tr.str f::r2).length)) ((x1==f,decide (x1.cps.toList < f.cps.toList))::q):=fun q=>by
      rw[z9,z9,<-z2,<-z3,z0,z1]
     by_cases ex:(x1==f)=true
     . unfold Cm at g;unfold Cms at g
       have ac:Cms r1 r2:=by
        rcases g with⟨_,c⟩|⟨n,_⟩
        . exact c
        . unfold Tre.eqT at n;rw[ex]at n;cases n
       have hx':=fH (A:=X.A.in1.in1) k p (fun d pp cc a1 a2 b1 b2=>fZ k 40 d pp cc a1 a2 b1 b2 p) (by omega) (.inl p1.2) ac w2 w4 au aT
       refine uU hx' ?_;rw[e]
       have e2:lexV (decide ((Tr.str x1::r1).length < (Tr.str f::r2).length)) ((x1==f,decide (x1.cps.toList < f.cps.toList))::qs r1 r2)=ltT (.tup (Tr.str x1::r1)) (.tup (Tr.str f::r2)):=by
        refine aX ?_;rw[ltT_iff];have el:decide ((Tr.str x1::r1).length < (Tr.str f::r2).length)=decide (r1.length < r2.length):=by simp
        have e4:=(j8 x1 f).mp ex;simp only[lexV,ex,if_true,el,dS,Tre.code,Tre.codes,LtC,LtCs,e4];constructor
        . intro h;exact .inr ⟨trivial,h⟩
        . rintro(h|h)
          . exact absurd h (List.lt_irrefl _)
          . exact h.2
       rw[e2];exact hR
     . have exf:(x1==f)=false:=by simpa using ex
       rw[Al];refine kat_cons (SeqAt.EqAt.str_str x1 l f y X.prog X.w _ _ ?_);rw[exf];refine kat_no ?_;refine oneLt_str ?_
       have e2:decide (x1.cps.toList < f.cps.toList)=ltT (.tup (Tr.str x1::r1)) (.tup (Tr.str f::r2)):=by
        refine aX ?_;rw[ltT_iff,decide_eq_true_iff];have ne:x1.cps.toList≠f.cps.toList:=fun z=>ex ((j8 x1 f).mpr z);simp only[Tre.code,Tre.codes,LtC,LtCs,Co.str.injEq];constructor
        . intro h;exact .inl h
        . rintro(h|h)
          . exact h
          . exact absurd h.1 ne
       rw[e2];exact hR
def r6:List V->Hp->VK->Prop:=fun xs H Q=>∃(v a:Addr) (kvs:List (Key×V)) (ts:List Tr),xs= [.ref v]/\H v=some (bH v a)/\H a=some (.dK kvs)/\TrsAt H (kvs.map (·.2)) ts/\ts.length < 64/\(∀t∈ts,Hs t/\t.pure/\t.depth<=40)/\(∀t∈ts,∀u∈ts,Cm t u)/\SrQ H ts Q
theorem call_sortedV(hc:X.calm=true)(hu:X.A.units+60 < cLine):bV X (.builtin "sorted") r6:=by
 intro pins s σ H xs us Q I r h;obtain⟨v,a,kvs,ts,rfl,hv,n,m,d,l,i,q⟩:=h;obtain⟨u,rfl,t⟩:=cG r;cases t;obtain⟨z,hd,ws,g,dd⟩:=nK I.hok n;obtain⟨c,_⟩:=(show ObjOk X.prog X.w H s.heap v (bH v a)from I.hok v _ hv);obtain⟨ep,f⟩:=dd.dictAt
 have p:Vals (kvs.map (·.2)) (ws.map (·.2)):=by
  clear f dd z q n m
  induction g with
  |nil=>exact .nil
  |cons r1 _ o=>exact .cons r1.2 o
 refine lS hu I p m d l i (fun E y k=>?_) q;refine fX (A:=X.A.in1) (PySem.W.kdl_values (knd:=aL X.prog X.w) (kvs:=ws) (ep:=ep)) (I.ok.hd hc) ⟨c,f⟩ (by rw[<-g.length];exact z) fun h' tk acc k1 sz b=>?_
 have e:acc.toList=ws.map (·.2):=PySem.W.kdl_vals_eq acc.toList (by rw[zO];exact b.1) fun j x ex=>b.2 j x (by rw[<-A5];exact ex)
 rw[e];exact k h' tk k1 sz
end
end Dj
namespace Dj
open PySem PySem.Spec PySem.W PyProof.Rows L2
section
variable{prog:Program}{w:World}{K:Type}[DecidableEq K]{knd:HeapKind prog w K}{A:Around}{E:Value->Shared->Prop}{s:Shared}
end
section
variable{X:Cx}{o e f:Expr}{apos cpos:Pos}{td ty tx:TE}
end
end Dj
namespace L2
open PySem PySem.Spec PyProof.Rows
section
variable{prog:Program}{w:World}{A:Around}{R:Result->Shared->Prop}{it S:Addr}{fp wr:List Addr}{n:Nat}{P:Nat->Value->Prop}{St:Nat->Heap->Prop}{kw:List (Str×Value)}
end
section
variable{X:Cx}
end
open PySem PySem.Spec PyProof.Rows
section
variable{X:Cx}{CX:CXT}{k i:Nat}{f:Addr}{fd:FuncData}{ps:List Str}{sp:Sp}{x y:Str}{p py pos epos:Pos}{e:Expr}{es:List Expr}{t:TA}
end
section
variable{X:Cx}{pins:List (Addr×Obj)}{σ σ':St}{H:Hp}{s:Shared}{h9:Heap}{tk:Nat}
end
section
variable{X:Cx}{body suite:List Stmt}{b0:Stmt}{tb:TSX}{ts:TS}{i:Nat}{n cx:Str}{np hpos pos:Pos}{W:Addr}
end
section
variable{X:Cx}{k:Nat}{f a:Addr}{fd:FuncData}{ps:List Str}{sp:Sp}{E:XK}{x:Str}{p pos:Pos}{e:Expr}{es:List Expr}{t:TA}
end
open PySem PySem.Spec PyProof.Rows
theorem rB{X:Cx}{b:List Stmt}:PSs X b (fun _ _ _=>False):=fun _ _ _ _ _ _ h=>h.elim
end L2
namespace K39
open PySem L2 Mth
noncomputable def top(i:Nat):Stmt:=PySem.Challenge.pw_smallword_k39_whole_bounds_weighed.main.body.getD i (.Pass ⟨0,0,0,0⟩)
noncomputable abbrev sCd:Stmt:=top 4
noncomputable abbrev sFr:Stmt:=top 5
noncomputable abbrev sBr:Stmt:=top 7
noncomputable abbrev sSt:Stmt:=top 8
noncomputable abbrev iE:Stmt:=uX (top 10) 0
noncomputable abbrev sTof:Stmt:=top 11
noncomputable abbrev sSet:Stmt:=top 12
noncomputable abbrev sTmo:Stmt:=top 13
noncomputable abbrev sShi:Stmt:=top 14
noncomputable abbrev sSco:Stmt:=top 15
noncomputable abbrev sWho:Stmt:=top 16
noncomputable abbrev sCto:Stmt:=top 17
noncomputable abbrev sIsl:Stmt:=top 18
noncomputable abbrev sSll:Stmt:=top 19
noncomputable abbrev sTur:Stmt:=top 20
noncomputable abbrev sTud:Stmt:=top 21
noncomputable abbrev sLby:Stmt:=top 22
noncomputable abbrev sRef:Stmt:=top 23
noncomputable abbrev sWag:Stmt:=top 24
noncomputable abbrev sHco:Stmt:=top 25
noncomputable abbrev sWby:Stmt:=top 26
noncomputable abbrev sLio:Stmt:=top 27
noncomputable abbrev sStr:Stmt:=top 28
noncomputable abbrev sTli:Stmt:=top 29
noncomputable abbrev sNua:Stmt:=top 30
noncomputable abbrev sWgd:Stmt:=top 32
noncomputable abbrev qQ:Stmt:=top 34
noncomputable abbrev la:Stmt:=top 35
noncomputable abbrev lg:Stmt:=top 36
noncomputable abbrev je:Stmt:=top 37
noncomputable abbrev jd:Stmt:=top 38
noncomputable abbrev fo:Stmt:=top 39
noncomputable abbrev l9:Stmt:=top 40
noncomputable abbrev qL:Stmt:=top 41
noncomputable abbrev jf:Stmt:=top 42
noncomputable abbrev qN:Stmt:=top 43
noncomputable abbrev gO:Stmt:=top 44
noncomputable abbrev gN:Stmt:=top 45
noncomputable abbrev qP:Stmt:=top 46
noncomputable abbrev sLaw:Stmt:=top 47
theorem ae{H:Hp}{p:Addr}{o:HO}(h:H p=none):Same H (upd H p o):=fun b u e=>by
 rw[ag (aE e h)];exact e
theorem aH{H H':Hp}{D:Addr}{o:HO}(h:H D=none)(s:Same H H'):Same H (upd H' D o):=fun b u e=>by
 rw[ag (aE e h)];exact s b u e
section
variable{P:Program}{w:World}{K:PySem.W.Frag}{mg:Str->Option Value}{base:Heap}{T0:Addr}
structure Blt (mg:Str->Option Value):Prop where
 ab:mg "abs"=none
 le:mg "len"=none
 ra:mg "range"=none
 isi:mg "isinstance"=none
 tu:mg "tuple"=none
 it:mg "int"=none
 bo:mg "bool"=none
 li:mg "list"=none
 st:mg "str"=none
 al:mg "all"=none
 an:mg "any"=none
 su:mg "sum"=none
 zi:mg "zip"=none
 so:mg "sorted"=none
 ve:mg "ValueError"=none
 re:mg "repr"=none
 en:mg "enumerate"=none
 ma:mg "max"=none
 mi:mg "min"=none
def spCd:Sp:=fun vs H Q _=>∃(a b:Int),vs= [.int a, .int b]/\Q (.int (Int.gcd a b:Int)) H
theorem scC:FnScope ["one","other"] ["one","other"] (ah sCd):= .of
theorem vm(a:Int):(if a < 0 then -a else a)=(Int.gcd a 0:Int):=by
 rw[Int.gcd_zero_right];split<;>omega
theorem rW{f:Addr}{fd:FuncData}(F:Fun K "common_divisor" "common_divisor" sCd f fd)(B:Blt mg):FnOk P w K mg base CX0 1 f fd ["one","other"] spCd:=by
 refine F.ok scC (fun vs H Q E h=>?_) (fun c A outer s H vs Q E hr h=>?_)
 . obtain⟨a,b,rfl,_⟩:=h;rfl
 . obtain⟨a,b,rfl,k⟩:=h
   refine⟨_,ad (gQ PassesOwn.never (ax iF (pv 1) a9 (ay _)) (ai (rD (i:=0) (j:=1) rfl scC.nd rfl rfl (by decide) rfl rfl (a0 (pv 1) (a0 (am uG (pv 0) (pv 1)) aa)) rfl)))
    (ai (az (av ij rfl B.ab ik (a0 (pv 0) aa)))),?_⟩
   refine jK (fun σ H'=>H'=H/\∃x y:Int,σ= [some (.int x),some (.int y)]/\Int.gcd x y=Int.gcd a b) (fun σ _=>match σ with| [_,some (.int y)]=>y.natAbs|_=>0) ⟨rfl,a,b,rfl,rfl⟩ ?_ ?_
   . rintro σ H' ⟨rfl,x,y,rfl,e⟩;refine⟨_,rfl,rfl,_,rfl,?_⟩;by_cases z:y=0
     . subst z;rw[decide_eq_true rfl];refine iteF ?_;refine⟨_,rfl,x,rfl,?_⟩;rw[vm,e];exact k
     . have d:¬(V.int y=V.int 0):=fun q=>z (V.int.inj q);rw[decide_eq_false d];refine iteT ?_;refine⟨_,rfl,_,rfl,_,rfl,x,y,rfl,rfl,z,_,_,rfl,?_⟩;refine⟨⟨rfl,y,x.fmod y,rfl,?_⟩,?_⟩
       . rw[sW,e]
       . exact vd z
   . intro σ H' R m l h;obtain⟨v,e1,e2,q,g,h⟩:=h;exact⟨v,e1,e2,q,g,l _ _ h⟩
theorem cJ{t b:Int}(h:Big b)(z:b≠0):Big (Int.gcd t b:Int):=by
 have:Int.gcd t b<=b.natAbs:=Int.gcd_le_natAbs_right t (by omega)
 unfold Big at*;omega
open PySem L2 Mth Dec Tre Wd Tw
def spBr(K:PySem.W.Frag):Sp:=fun vs H Q _=>∃(l:Addr) (y:Str) (ys:List Str),vs= [.ref l]/\SqL K H l ((y::ys).map V.str)/\y.length<=1000/\ys.length<=10/\(∀z∈ys,z.length<=600000)/\∀z,cl z=40::cl y++spC (ys.map cl)++ [41]->Q (.str z) H
theorem scBr:FnScope ["words"] ["words"] (ah sBr):= .of
theorem yJ{f:Addr}{fd:FuncData}(F:Fun K "bracketed" "bracketed" sBr f fd):FnOk P w K mg base CX0 1 f fd ["words"] (spBr K):=by
 refine F.okb scBr fun vs H Q E h=>?_;obtain⟨l,y,ys,rfl,hl,hy,hn,hz,k⟩:=h;refine⟨rfl,fun b A outer s hr=>?_⟩;refine⟨_,ai (az (am gY (am gY cM (gW PySem.F.plainAttrs_str PySem.F.slot_str_join PySem.F.type_str_join uM cM (a0 (pv 0) aa))) cM)),?_⟩;have e1:(Str.ofString " ").length=1:=by decide +kernel
 have e2:(Str.ofString "(").length=1:=by decide +kernel
 have d:(Str.ofString ")").length=1:=by decide +kernel
 have hs:=pR hz;have hm:ys.length*600000<=10*600000:=As _ hn
 have e:(Txt.join (Str.ofString " ") (y::ys)).length<=6002000:=by
  have h2:=mE (B:=600000) (cs:=ys.map cl) (fun c m=>by
   obtain⟨z,a,rfl⟩:=zJ.mp m;rw[cP]
   exact hz z a)
  rw[yY]at h2;have h3:ys.length*(600000+1)<=10*600001:=As _ hn;rw[<-cP,kJ,zK,cP];omega
 have g:(16000000:Nat)<=sizeLine:=by decide +kernel
 refine⟨rfl,_,rfl,_,l,y::ys,rfl,rfl,hl,by rw[e1];simp only[zj,List.sum_cons,zq];omega,_,_,rfl,rfl,by rw[e2];omega,_,_,rfl,rfl,by rw[Dec.len_app,e2,d];omega,k _ ?_⟩
 rw[ii,ii,yN,yC,kJ];simp
def spSt(n:Nat):Sp:=fun vs H Q _=>∃(v:V) (t:Tr),vs= [v]/\TrAt H v t/\Ty .tm t/\t.depth < n/\(tmC t).length<=1000/\∀z H',Same H H'->cl z=tmC t->Q (.str z) H'
theorem scSt:FnScope ["term"] ["term"] (ah sSt):= .of
theorem pC{ts:List Tr}{t:Tr}(m:t∈ts):(tmC t).length<=(tmsC ts).length:=by
 rw[eD];obtain⟨a,b,rfl⟩:=List.append_of_mem m;rw[zu,uj,zj];show _<=(_++((32::tmC t)++spC (b.map tmC))).length;simp only[zK,zq];omega
theorem yI{f fB:Addr}{fd fdB:FuncData}(F:Fun K "shown_term" "shown_term" sSt f fd)(bF:Binds K fd ["term"] [])(mF:mg "shown_term"=some (.ref f))(FB:Fun K "bracketed" "bracketed" sBr fB fdB)(bB:Binds K fdB ["words"] [])(mB:mg "bracketed"=some (.ref fB)):
 ∀n,FnOk P w K mg base CX0 (n+1) f fd ["term"] (spSt n):=by
 have GB:FnOk P w K mg base CX0 1 fB fdB ["words"] (spBr K):=yJ FB;intro n
 induction n with
 |zero=>exact⟨fun vs H Q E ⟨_,_,_,_,_,h,_⟩=>absurd h (by omega),fun A outer s H args us vs Q E _ _ _ _ ⟨_,_,_,_,_,h,_⟩=>absurd h (by omega)⟩
 |succ n ih=>
  refine F.ok scSt (fun vs H Q E h=>?_) (fun aT A outer s H vs Q E hr h=>?_)
  . refine hZq fun q_ e_=>?_;obtain⟨v,t,rfl,_⟩:=h;subst e_;rfl
  refine hZq fun q_ e_=>?_;obtain⟨v,t,rfl,hv,hw,hd,hl,k⟩:=h;subst e_;have af:Room 1 _:=hr.mono (by omega)
  refine⟨_,ad (bG (ax ci (ao aw (pv 0) a9 fun _ _=>rfl) cM (ay _)) (ai (az (ao aw (pv 0) a9 fun _ _=>rfl))) aO)
   (ai (az (dR GB af rfl mB FB.kp bB .nil gX (a0 (am dC (c5 (a0 (ao aw (pv 0) a9 fun _ _=>rfl) aa))
    (aQ (NC:= ["inner"]) (mp:= [none]) rfl (dz (ao aw (pv 0) a9 fun _ _=>rfl)) (fun _ _ _ _ _=>pgA 0 (show(["inner"]:List Str).Nodup by decide +kernel)) (fun _ _ _ _ _=>aZ) (fun _ _ _ _ _=>dR ih hr rfl mF F.kp bF .nil gX (a0 (pv 0) aa)))) aa)))),?_⟩
  cases hw with
  |nm x=>
   refine hZq fun q_ e_=>?_;obtain⟨r,y,rfl,h1,h2⟩:=at2 hv;subst e_;have h3:=at_s h2;subst h3;refine⟨_,rfl,r,_,0, .str "name",rfl,rfl,SqT.of h1,rfl,rfl,_,rfl,?_⟩;rw[decide_eq_true rfl];refine iteT ⟨_,rfl,r,_,1, .str x,rfl,rfl,SqT.of h1,rfl,?_⟩;exact k _ H (Same.refl H) (eE _ _).symm
  |ap g ts a1 o=>
   refine hZq fun q_ e_=>?_;obtain⟨r,y,z,rfl,h1,h2,h3⟩:=at3 hv;have e2:=at_s h2;subst e2;obtain⟨q,vs,rfl,h4,h5⟩:=at_t h3;subst e_;refine⟨_,rfl,r,_,0, .str "call",rfl,rfl,SqT.of h1,rfl,rfl,_,rfl,?_⟩;rw[decide_eq_false (show¬V.str "call"=V.str "name" by decide +kernel)]
   refine iteF ?_;refine⟨_,rfl,r,_,1, .str g,rfl,rfl,SqT.of h1,rfl,by show 1<=sizeLine;decide,fun l nl=>?_⟩
   have s1:Same H (upd H l (.lst [.str g])):=ae nl;refine bO rfl ?_;refine⟨_,rfl,r,_,2, .ref q,rfl,rfl,SqT.of (s1 _ _ h1),rfl,q,rfl,⟨vs,SqT.of (s1 _ _ h4)⟩,fun D nD=>?_⟩;have b:=h5.len;have hL:(100000:Nat)<=sizeLine:=by decide +kernel
   have hl':=hl;unfold s_ at hl';rw[dQ]at hl';simp only[zK,zq,cP]at hl';refine kE (xs:=vs) (fun i acc H'=>Same (upd H l (.lst [.str g])) H'/\H' D=some (.lst acc)/\∃ys:List Str,acc=ys.map V.str/\ys.map cl=(ts.take i).map tmC) ⟨ae nD,a8,[],rfl,rfl⟩ (fun i acc H' p=>SqT.of (p.1 _ _ (s1 _ _ h4))) ?_ ?_
   . intro i x acc H' hi ex z_;refine hZq fun q_ e_=>?_;obtain⟨c,m,ys,rfl,a⟩:=z_;obtain⟨t,et,au⟩:=h5.get' ex;subst e_;have d:=za et;have aC:=pC d;have u:=congrArg List.length a;rw[yY,yY,zG]at u;refine⟨_,rfl,x,t,rfl,au.mono (Kd.of_same (s1.trans c)),o t d,?_,by omega,fun z H6 s6 ez=>CompN.mk hi ?_ (s6 _ _ m) ⟨aH nD (c.trans s6),a8,ys++ [z],by rw[zu];rfl,?_⟩⟩
     . have ac:=hd;simp only[Tr.depth,Trs.depth]at ac;have:=bA d;omega
     . rw[yY];omega
     . rw[zu,a,List.take_add_one,et];simp[ez]
   . intro acc H' z_;refine hZq fun q_ e_=>?_;obtain⟨c,m,ys,rfl,a⟩:=z_;subst e_;rw[b,zx]at a;have j:H' l=some (.lst [.str g]):=c _ _ a8;have u:=congrArg List.length a;rw[yY,yY]at u;refine⟨l,D,[.str g],_,rfl,rfl,j,m,by simp only[yY,zq,List.length_nil];omega,fun p np=>?_⟩
     refine⟨p,g,ys,rfl,SqL.of ?_,by omega,by omega,fun y my=>?_,fun z ez=>?_⟩
     . rw[a8];rfl
     . have:cl y∈ts.map tmC:=by rw[<-a];exact List.mem_map_of_mem my
       obtain⟨t,d,e⟩:=zJ.mp this;have:=pC d;rw[<-cP,<-e];omega
     . refine k z _ (s1.trans (c.trans (ae np))) ?_;unfold s_;rw[ez,dQ,eD,a]
end
end K39
namespace Su
open PySem L2 Tre Mth Wd
noncomputable def lin(g:Tr->Rat):List Pq->Rat
 | []=>0
 |p::r=>rv p.2*g p.1+lin g r
theorem jq(g:Tr->Rat)(a b:List Pq):lin g (a++b)=lin g a+lin g b:=by
 induction a with
 |nil=>simp only[AD,lin];grind
 |cons p r c=>simp only[zX,lin,c];grind
theorem uQ(g:Tr->Rat)(a:List Pq):lin g (a.map neg)= -lin g a:=by
 induction a with
 |nil=>simp only[AF,lin];grind
 |cons p r b=>
  simp only[zj,lin,b];show rv (negF p.2)*g p.1+_=_;rw[qT];grind
theorem oN(g:Tr->Rat){q:Fr}(hq:Sh q){a:List Pq}(h:∀p∈a,Sh p.2):lin g (a.map (scale q))=lin g a*rv q:=by
 induction a with
 |nil=>simp only[AF,lin];grind
 |cons p r b=>
  simp only[zj,lin,b fun x m=>h x (z5 _ m)];show rv (gA p.2 q)*g p.1+_=_;rw[jT (h p z6) hq];grind
open Classical in
theorem oM(g:Tr->Rat)(k:Tr)(l:List Pq):lin g l=g k*tot k l+lin g (l.filter fun p=>decide (p.1≠k)):=by
 induction l with
 |nil=>simp only[List.filter_nil,lin,tot];grind
 |cons p r a=>
  rw[List.filter_cons];by_cases z:p.1=k
  . have e:decide (p.1≠k)=false:=by simp[z]
    rw[e,if_neg (by decide)]
    simp only[lin,tot,if_pos z,a,z];grind
  . have e:decide (p.1≠k)=true:=by simp[z]
    rw[e,if_pos rfl];simp only[lin,tot,if_neg z,a];grind
open Classical in
theorem pw(t k:Tr)(l:List Pq):tot t (l.filter fun p=>decide (p.1≠k))=if t=k then 0 else tot t l:=by
 induction l with
 |nil=>simp only[List.filter_nil,tot];grind
 |cons p r a=>
  rw[List.filter_cons];by_cases z:p.1=k
  . have e:decide (p.1≠k)=false:=by simp[z]
    rw[e,if_neg (by decide),a]
    by_cases y:t=k
    . simp only[if_pos y]
    . simp only[if_neg y,tot,if_neg (fun q:p.1=t=>y (q.symm.trans z))];grind
  . have e:decide (p.1≠k)=true:=by simp[z]
    rw[e,if_pos rfl];simp only[tot,a];by_cases y:t=k
    . simp only[if_pos y];rw[if_neg (fun q:p.1=t=>z (q.trans y))];grind
    . simp only[if_neg y]
open Classical in
theorem kh(g:Tr->Rat):∀(n:Nat) (l:List Pq),l.length<=n->(∀t,tot t l=0)->lin g l=0
 |_,[],_,_=>rfl
 |0,p::r,h,_=>by simp at h
 |n+1,p::r,h,ht=>by
  rw[oM g p.1,ht,kh g n]
  . grind
  . have e:decide (p.1≠p.1)=false:=by simp
    rw[List.filter_cons,e,if_neg (by decide)]
    have:=zR (fun q:Pq=>decide (q.1≠p.1)) r;simp only[zq]at h;omega
  . intro t;rw[pw];split
    . rfl
    . exact ht t
theorem xp(g:Tr->Rat){a b:List Pq}(h:∀t,tot t a=tot t b):lin g a=lin g b:=by
 have:=kh g _ (a++b.map neg) (z4 _) fun t=>by rw[dO,ud,h];grind
 rw[jq,uQ]at this;grind
theorem yB{p q:Fr}(h1:0 < p.2)(h2:0 < q.2):p.1*q.2<=q.1*p.2↔rv p<=rv q:=by
 have a:(0:Rat) < p.2:=by exact_mod_cast h1
 have b:(0:Rat) < q.2:=by exact_mod_cast h2
 have e:(p.1*q.2<=q.1*p.2)↔((p.1:Rat)*q.2<=q.1*p.2):=by
  rw[<-Rat.intCast_mul,<-Rat.intCast_mul,Rat.intCast_le_intCast]
 rw[e];unfold rv;have g:(0:Rat) < (p.2:Rat)⁻¹:=Rat.inv_pos.mpr a;have i:(0:Rat) < (q.2:Rat)⁻¹:=Rat.inv_pos.mpr b;rw[Rat.div_def,Rat.div_def];have j:(p.2:Rat)*(p.2:Rat)⁻¹=1:=Rat.mul_inv_cancel _ (by grind)
 have nb:(q.2:Rat)*(q.2:Rat)⁻¹=1:=Rat.mul_inv_cancel _ (by grind)
 generalize (p.2:Rat)⁻¹=x at*;generalize (q.2:Rat)⁻¹=y at*;generalize (p.2:Rat)=c at*;generalize (q.2:Rat)=d at*;generalize (p.1:Rat)=m at*;generalize (q.1:Rat)=n at*;constructor
 . intro h;have h3:=Rat.mul_le_mul_of_nonneg_right h (Rat.le_of_lt g);have f:=Rat.mul_le_mul_of_nonneg_right h3 (Rat.le_of_lt i);have e1:m*d*x*y=m*x:=by clear h h3 f e;grind
   have e2:n*c*x*y=n*y:=by clear h h3 f e;grind
   rw[e1,e2]at f;exact f
 . intro h;have h3:=Rat.mul_le_mul_of_nonneg_right h (Rat.le_of_lt a);have f:=Rat.mul_le_mul_of_nonneg_right h3 (Rat.le_of_lt b);have e1:m*x*c*d=m*d:=by clear h h3 f e;grind
   have e2:n*y*c*d=n*c:=by clear h h3 f e;grind
   rw[e1,e2]at f;exact f
open PySem L2 Tre Mth Wd
theorem asc_len:∀ {us:List Pq} {T:List Tr},Asc us->(∀u∈us,u.1∈T)->us.length<=T.length
 | [],_,_,_=>zr _
 |p::r,T,h,hm=>by
  classical
  obtain⟨h1,h2⟩:=List.pairwise_cons.mp h
  have a:=asc_len (T:=T.filter fun t=>decide (t≠p.1)) h2 fun u m=>Aa.mpr ⟨hm u (z5 _ m),by
   have:=mY (h1 u m);simp only[decide_eq_true_eq]
   exact fun z=>this z.symm⟩
  have:(T.filter fun t=>decide (t≠p.1)).length < T.length:=by
   refine Nat.lt_of_le_of_ne (zR _ _) fun e=>?_;have:=List.length_filter_eq_length_iff.mp e p.1 (hm p z6);simp at this
  rw[zq];omega
structure Bd where
 us:List Pq
 m:Fr
 st:Bool
abbrev Wt:=Nat×Fr
def wtT(k:Wt):Tr:= .tup [.int (k.1:Int),frT k.2]
def bdAt(bs:List Bd)(i:Nat):Bd:=bs.getD i ⟨[],zero,false⟩
noncomputable def aW(bs:List Bd):List Wt->List Pq
 | []=> []
 |k::r=>(bdAt bs k.1).us.map (scale k.2)++aW bs r
noncomputable def totR(bs:List Bd):List Wt->Rat
 | []=>0
 |k::r=>rv (bdAt bs k.1).m*rv k.2+totR bs r
theorem oT(bs:List Bd)(a b:List Wt):aW bs (a++b)=aW bs a++aW bs b:=by
 induction a with
 |nil=>rfl
 |cons k r c=>simp only[zX,aW,c,List.append_assoc]
theorem pB(bs:List Bd)(a b:List Wt):totR bs (a++b)=totR bs a+totR bs b:=by
 induction a with
 |nil=>simp only[AD,totR];grind
 |cons k r c=>simp only[zX,totR,c];grind
theorem oS(bs:List Bd)(k:Wt):aW bs [k]=(bdAt bs k.1).us.map (scale k.2):=by simp[aW]
theorem pA(bs:List Bd)(k:Wt):totR bs [k]=rv (bdAt bs k.1).m*rv k.2:=by simp only[totR];grind
end Su
namespace Tre
open PySem PySem.Spec PyProof.Rows L2
section
variable{X:Cx}
def rEqT:R2:=fun x y H Q=>∃ts us,TrAt H x (.tup ts)/\TrAt H y (.tup us)/\(Trs.pure ts\/Trs.pure us)/\Trs.depth ts<=40/\Q (.bl (eqTs ts us)) H
theorem kj{pins:List (Addr×Obj)}{σ:L2.St}{H:Hp}{s:Shared}{A:Around}{ts us:List Tr}{vs ws:List V}{as bs:List Value}(I:Inv X pins σ H s)(hu:A.units+42 < cLine)(h1:TrsAt H vs ts)(h2:TrsAt H ws us)(hp:Trs.pure ts\/Trs.pure us)(hd:Trs.depth ts<=40)(r1:Vals vs as)(r2:Vals ws bs)(j:Nat)(g1:j < as.toArray.size)(g2:j < bs.toArray.size):SeqAt.EqAt A s as.toArray[j] bs.toArray[j] (eqJ ts us j):=by
 have l1:=h1.len;have l2:=h2.len;have o:=r1.length;have p:=r2.length;have c:j < as.length:=by simpa using g1
 have b:j < bs.length:=by simpa using g2
 have a:ts[j]?=some (ts[j]'(by omega)):=yZ _
 have t2:us[j]?=some (us[j]'(by omega)):=yZ _
 obtain⟨v,e1,g⟩:=h1.get a;obtain⟨w,e2,k⟩:=h2.get t2;obtain⟨i,e,f⟩:=r1.get e1;obtain⟨m,d,n⟩:=r2.get e2;have h:as.toArray[j]=i:=by rw[List.getElem_toArray];rw[yZ c]at e;exact ze e
 have l:bs.toArray[j]=m:=by rw[List.getElem_toArray];rw[yZ b]at d;exact ze d
 rw[h,l,t9 a t2];refine j3 I 40 ?_ ?_ g k f n (by omega)
 . have:=bA (za a);omega
 . rcases hp with hp|hp
   . exact .inl (du hp (za a))
   . exact .inr (du hp (za t2))
theorem wB(hu:X.A.units+50 < cLine):OpR X (compareOp .Eq) rEqT:=by
 intro pins s σ H x y v u Q I g d h;obtain⟨ts,us,h1,h2,hp,hd,q⟩:=h;unfold TrAt at h1 h2;obtain⟨a,vs,rfl,c,k1⟩:=h1;obtain⟨b,ws,rfl,g2,k2⟩:=h2;cases g;cases d;obtain⟨as,r1,f,_⟩:=I.tuple (SqT.of c);obtain⟨bs,r2,p2,_⟩:=I.tuple (SqT.of g2);refine PySem.SeqAt.eq_tupleAt (e:=eqJ ts us) (show s.heap.IsTuple a as.toArray from f) (show s.heap.IsTuple b bs.toArray from p2) (by omega) (fun j c g2=>kj I (by first|omega|(show X.A.units+1+42 < cLine;omega)) k1 k2 hp hd r1 r2 j c g2) ?_
 refine⟨.bl (eqTs ts us),H,I,?_,q⟩;rw[z9,z9,<-r1.length,<-r2.length,k1.len,k2.len,<-dG];rfl
end
end Tre
namespace L2
open PySem
section
variable{X:Cx}{tg:Expr}
end
end L2
namespace K39
open PySem L2 Mth Tre Wd Su
noncomputable def lcmF(s:Int):List Fr->Int
 | []=>s
 |f::r=>lcmF (s / (Int.gcd s f.2:Int)*f.2) r
theorem ki(s:Int)(a b:List Fr):lcmF s (a++b)=lcmF (lcmF s a) b:=by
 induction a generalizing s with
 |nil=>rfl
 |cons f r c=>simp only[zX,lcmF,c]
theorem lcm1{s b:Int}(hs:0 < s)(hb:0 < b):0 < s / (Int.gcd s b:Int)*b/\s∣s / (Int.gcd s b:Int)*b/\b∣s / (Int.gcd s b:Int)*b/\(s / (Int.gcd s b:Int)*b).natAbs<=s.natAbs*b.natAbs:=by
 obtain⟨a,d,e1,e2,_,c,_⟩:=cQ (x:=s) (y:=b) (by omega)
 have e:0 < (Int.gcd s b:Int):=by
  have:Int.gcd s b≠0:=fun z=>by
   rw[z]at e2;have:b=0:=by rw[e2];exact Af _
   omega
  omega
 rw[c];have hx:0 < a:=de (k:=(Int.gcd s b:Int)) (by omega) (by rw[<-e1];exact hs)
 refine⟨Ax hx hb,⟨d,?_⟩,⟨a,AM _ _⟩,?_⟩
 . generalize (Int.gcd s b:Int)=g at*;subst e1;rw[e2];grind
 . rw[zM];refine As _ ?_
   have:a.natAbs<=((Int.gcd s b:Int)*a).natAbs:=by
    rw[zM];exact Nat.le_mul_of_pos_left _ (by omega)
   rw[<-e1]at this;exact this
theorem eW{M:Nat}:∀ {fs:List Fr} {s:Int},0 < s->(∀f∈fs,0 < f.2/\f.2.natAbs<=M)->0 < lcmF s fs/\s∣lcmF s fs/\(∀f∈fs,f.2∣lcmF s fs)/\(lcmF s fs).natAbs<=s.natAbs*M^fs.length
 | [],s,hs,_=>⟨hs,Int.dvd_refl _,fun f m=>(by cases m),by simp[lcmF]⟩
 |f::r,s,hs,h=>by
  obtain⟨d,c,a,b⟩:=lcm1 hs (h f z6).1;obtain⟨b1,b2,b3,b4⟩:=eW (M:=M) (fs:=r) d fun g m=>h g (z5 _ m);refine⟨b1,Int.dvd_trans c b2,fun g m=>?_,?_⟩
  . rcases zc.mp m with rfl|m
    . exact Int.dvd_trans a b2
    . exact b3 g m
  . refine zh b4 ?_;rw[zq,Nat.pow_succ,AL (M^r.length),<-Nat.mul_assoc];exact As _ (zh b (Nat.mul_le_mul_left _ (h f z6).2))
section
variable{P:Program}{w:World}{K:PySem.W.Frag}{mg:Str->Option Value}{base:Heap}{T0:Addr}
def mD:Sp:=fun vs H Q _=>∃(t b:Int),vs= [.int t, .int b]/\0 < b/\Big b/\∀p,H p=none->Q (.ref p) (upd H p (.tup [.int (fx t b), .int (fy t b)]))
theorem scF:FnScope ["top","bottom","divisor"] ["top","bottom"] (ah sFr):= .of
theorem x4{f fC:Addr}{fd fdC:FuncData}(F:Fun K "fraction" "fraction" sFr f fd)(FC:Fun K "common_divisor" "common_divisor" sCd fC fdC)(bC:Binds K fdC ["one","other"] [])(mC:mg "common_divisor"=some (.ref fC))(B:Blt mg):FnOk P w K mg base CX0 2 f fd ["top","bottom"] mD:=by
 have g:FnOk P w K mg base CX0 1 fC fdC ["one","other"] spCd:=rW FC B;refine F.okb scF fun vs H Q E h=>?_;obtain⟨t,b,rfl,h0,hb,k⟩:=h;refine⟨rfl,fun d A outer s hr=>?_⟩
 refine⟨_,ad (bG (ax ci (pv 1) a9 (ay _)) rB aO)
  (ad (psA 2 scF.nd (dR g hr rfl mC FC.kp bC .nil gX (a0 (pv 0) (a0 (pv 1) aa))))
  (ad (bG (ax iG (pv 1) a9 (ay _)) rB aO)
  (ai (az (aY (a0 (am jY (pv 0) (pv 2)) (a0 (am jY (pv 1) (pv 2)) aa))))))),?_⟩
 have z:b≠0:=by omega
 have e:¬(V.int b=V.int 0):=fun q=>z (V.int.inj q);refine⟨_,rfl,rfl,_,rfl,?_⟩;rw[decide_eq_false e];refine iteF ?_;refine⟨_,rfl,_,rfl,t,b,rfl,?_⟩;refine⟨_,rfl,b,0,rfl,rfl,_,rfl,?_⟩;rw[decide_eq_false (show¬b < 0 by omega)]
 refine iteF ?_;have c:dv t b=(Int.gcd t b:Int):=by unfold dv;rw[if_neg (by omega)]
 have a:(Int.gcd t b:Int)≠0:=by rw[<-c];exact tf z
 refine⟨_,rfl,_,rfl,t,_,rfl,rfl,⟨a,cJ hb z⟩,_,rfl,_,rfl,b,_,rfl,rfl,⟨a,cJ hb z⟩,two,fun p hp=>?_⟩;have:=k p hp;unfold fx fy at this;rw[c]at this;exact this
def qu:Sp:=fun vs H Q _=>∃(v:V) (us:List Pq),vs= [v]/\TrAt H v (.tup (us.map prT))/\us.length<=64/\∀(l:Addr) (ws:List V) (H':Hp),Same H H'->H l=none->H' l=some (.lst ws)->TrsAt H' ws (us.map fun u=>frT u.2)->Q (.ref l) H'
theorem yu:FnScope ["pairs"] ["pairs"] (ah sShi):= .of
theorem wO{f:Addr}{fd:FuncData}(F:Fun K "shares_in" "shares_in" sShi f fd):FnOk P w K mg base CX0 1 f fd ["pairs"] qu:=by
 refine F.okb yu fun vs H Q E h=>?_;obtain⟨v,us,rfl,hv,hl,k⟩:=h;refine⟨rfl,fun aC A outer s hr=>?_⟩
 refine⟨_,ai (az (aQ (NC:= ["term","share"]) (mp:= [none,none]) (g:=gTup K 2 (be (aJ 0) (be (aJ 1) gNil))) rfl (dz (pv 0))
  (fun _ _ _ _ _=>bh (n:=2) rfl (aq (pgA 0 (show(["term","share"]:List Str).Nodup by decide +kernel)) (aq (pgA 1 (show(["term","share"]:List Str).Nodup by decide +kernel)) aV))) (fun _ _ _ _ _=>aZ)
  (fun _ _ _ _ _=>pv 1))),?_⟩
 have af:(20000:Nat)<=sizeLine:=by decide +kernel
 obtain⟨au,xs,rfl,i,e⟩:=at_t hv;have xl:=e.len;rw[yY]at xl;refine tH (K':=K) (xs:=xs) (rest:= []) (a:=au) rfl (fun Q q=>⟨_,rfl,q⟩) (SqT.of i) fun L r=>?_;refine⟨fun j b H'=>Same H H'/\H' L=some (.lst b)/\TrsAt H' b ((us.take j).map fun u=>frT u.2),⟨ae r,a8,by rw[Ak];exact .nil⟩,fun j b H' p=>SqT.of (p.1 _ _ i),?_,?_⟩
 . rintro j z b H' hj ⟨l,m,c⟩ ez;obtain⟨t',d,t⟩:=(e.mono (Kd.of_same l)).get' ez;rw[z7]at d;obtain⟨⟨tm,fr⟩,eq,rfl⟩:=zf.mp d;obtain⟨T',x,y,rfl,ac,hx,hy⟩:=bL t;have o:=c.len;rw[yY,zG]at o;refine⟨T',x,y,rfl,SqT.of ac,_,rfl,?_⟩;have kd:=Kd.upd (ys:=b++ [y]) m;refine CompN.mk hj (by omega) m ⟨aH r l,a8,?_⟩
   rw[aD eq,zu];exact TrsAt.app (.cons (hy.mono kd) .nil) (c.mono kd)
 . rintro b H2 ⟨l,m,c⟩;rw[xl,zx]at c;exact k L b H2 l r m c
def qz:Sp:=fun vs H Q _=>∃(l:Addr) (ws:List V) (fs:List Fr) (M:Nat),vs= [.ref l]/\H l=some (.lst ws)/\TrsAt H ws (fs.map frT)/\(∀f∈fs,0 < f.2/\f.2.natAbs<=M)/\0 < M/\M^(fs.length+1) < 2^8000/\Q (.int (lcmF 1 fs)) H
theorem scSco:FnScope ["shares","scale","top","bottom"] ["shares"] (ah sSco):= .of
theorem wQ{f fC:Addr}{fd fdC:FuncData}(F:Fun K "scale_of" "scale_of" sSco f fd)(FC:Fun K "common_divisor" "common_divisor" sCd fC fdC)(bC:Binds K fdC ["one","other"] [])(mC:mg "common_divisor"=some (.ref fC))(B:Blt mg):FnOk P w K mg base CX0 2 f fd ["shares"] qz:=by
 have z:FnOk P w K mg base CX0 1 fC fdC ["one","other"] spCd:=rW FC B;refine F.okb scSco fun vs H Q E h=>?_;refine hZq fun q_ e_=>?_;obtain⟨l,ws,fs,M,rfl,hl,n,b,a,hM,k⟩:=h;subst e_;refine⟨rfl,fun r A outer s hr=>?_⟩
 refine⟨_,ad (psA 1 scSco.nd a9)
  (ad (bX PassesOwn.never rfl (bf (pv 0)) (bh rfl (aq (pgA 2 scSco.nd) (aq (pgA 3 scSco.nd) aV)))
   (ai (psA 1 scSco.nd (am aR (am cE (pv 1) (dR z hr rfl mC FC.kp bC .nil gX (a0 (pv 1) (a0 (pv 3) aa)))) (pv 3)))))
  (ai (az (pv 1)))),?_⟩
 have o:=n.len;rw[yY]at o;refine⟨_,rfl,l,rfl,⟨_,SqL.of hl⟩,?_⟩;refine eY (xs:=ws) (fun i σ H'=>H'=H/\∃j e:Option V,σ= [some (.ref l),some (.int (lcmF 1 (fs.take i))),j,e]) ⟨rfl,none,none,rfl⟩ (fun i σ H' _ p=>by rw[p.1];exact SqL.of hl) ?_ ?_
 . intro i x σ H1 ex z_;refine hZq fun q_ e_=>?_;obtain⟨rfl,j,e,rfl⟩:=z_;obtain⟨t,q,ht⟩:=n.get' ex;rw[z7]at q;obtain⟨fr,c,rfl⟩:=zf.mp q;obtain⟨u,rfl,d⟩:=bU ht;have il:i < fs.length:=(zb.mp c).1;obtain⟨f0,fM⟩:=b fr (za c);obtain⟨c1,_,_,y⟩:=eW (M:=M) (fs:=fs.take i) (s:=1) (by decide) fun g m=>b g (At m)
   subst e_;have p1:M^(fs.take i).length<=M^(fs.length+1):=Am a (by rw[zG];omega)
   have p2:M^1<=M^(fs.length+1):=Am a (by omega)
   rw[Nat.pow_one]at p2
   have b1:Big (lcmF 1 (fs.take i)):=by
    unfold Big;have:(1:Int).natAbs=1:=rfl;rw[this,Nat.one_mul]at y;omega
   have b2:Big fr.2:=by unfold Big;omega
   have v:0 < (Int.gcd (lcmF 1 (fs.take i)) fr.2:Int):=by
    have:0 < Int.gcd (lcmF 1 (fs.take i)) fr.2:=A3 _ (by omega)
    omega
   refine⟨u,_,rfl,SqT.of d,rfl,_,_,rfl,_,_,rfl,rfl,?_⟩;refine⟨_,rfl,_,rfl,_,rfl,_,_,rfl,_,_,rfl,rfl,⟨v,cJ b2 (by omega)⟩,_,rfl,_,_,rfl,rfl,⟨?_,b2⟩,rfl,some (.int fr.1),some (.int fr.2),?_⟩
   . unfold Big at*;exact zg (dk _ _) b1
   . rw[aD c,ki];rfl
 . intro σ H1 z_;refine hZq fun q_ e_=>?_;obtain⟨rfl,j,e,rfl⟩:=z_;subst e_;rw[o,zx];exact⟨_,rfl,k⟩
def wh(f:Fr)(s:Int):Int:=f.1*(s / f.2)
def me:Sp:=fun vs H Q _=>∃(v:V) (f:Fr) (s:Int),vs= [v, .int s]/\TrAt H v (frT f)/\0 < f.2/\Big f.2/\Big f.1/\Big s/\Q (.int (wh f s)) H
theorem yo:FnScope ["share","scale"] ["share","scale"] (ah sWho):= .of
theorem wC{f:Addr}{fd:FuncData}(F:Fun K "whole_of" "whole_of" sWho f fd):FnOk P w K mg base CX0 1 f fd ["share","scale"] me:=by
 refine F.okb yo fun vs H Q E h=>?_;obtain⟨v,f,sc,rfl,hv,d,b2,b1,bs,k⟩:=h;refine⟨rfl,fun c A outer s hr=>?_⟩;refine⟨_,ai (az (am aR (ao aw (pv 0) a9 fun _ _=>rfl) (am cE (pv 1) (ao aw (pv 0) a9 fun _ _=>rfl)))),?_⟩;obtain⟨b,rfl,a⟩:=bU hv;refine⟨_,rfl,b,_,0,_,rfl,rfl,SqT.of a,rfl,_,rfl,_,rfl,b,_,1,_,rfl,rfl,SqT.of a,rfl,_,_,rfl,rfl,⟨d,b2⟩,_,_,rfl,rfl,⟨b1,?_⟩,k⟩;unfold Big at*;exact zg (dk _ _) bs
theorem m6{f:Fr}{s:Int}(h:0 < f.2):(wh f s).natAbs<=f.1.natAbs*s.natAbs:=by
 unfold wh;rw[zM];exact Nat.mul_le_mul_left _ (dk _ _)
end
end K39
namespace L2
open PySem
open PySem PySem.Spec PyProof.Rows
section
variable{prog:Program}{w:World}{A:Around}{E:Value->Shared->Prop}{s:Shared}
end
section
variable{X:Cx}{o:Expr}{lo:Expr}{p2 tpos pos:Pos}{ta tl:TE}
end
end L2
namespace K39
open PySem L2 Mth Tre Wd Su Tw Fm
theorem SqL.same{K:PySem.W.Frag}{H H':Hp}{a:Addr}{xs:List V}(s:Same H H')(h:SqL K H a xs):SqL K H' a xs:=h.imp (fun x=>x.imp (fun e=>s _ _ e) fun⟨o,e⟩=>⟨o,s _ _ e⟩) id
def Rk(H:Hp)(e:Key×V)(t:Tr):Prop:=∃z:Str,e.1=Sum.inr z/\Dec.cl z=tmC t/\Gt t/\TrAt H e.2 t
def DictT(H:Hp)(kvs:List (Key×V))(acc:List Tr):Prop:=Paired (Rk H) kvs acc
def But1(d:Addr)(H H':Hp):Prop:=∀x o,x≠d->H x=some o->H' x=some o
theorem But1.trans{d:Addr}{H H1 H2:Hp}(a:But1 d H H1)(b:But1 d H1 H2):But1 d H H2:=fun x o n e=>b x o n (a x o n e)
theorem But1.of_same{d:Addr}{H H':Hp}(s:Same H H'):But1 d H H':=fun x o _ e=>s x o e
theorem But1.kd{d:Addr}{H H':Hp}{kvs:List (Key×V)}(hd:H d=some (.dK kvs))(b:But1 d H H'):Kd H H':=by
 have ne:∀ {a:Addr} {o:HO},H a=some o->(∀z,o≠ .dK z)->a≠d:=fun e h z=>by
  rw[z,hd]at e;exact h _ (ze e).symm
 exact⟨fun a xs e=>b a _ (ne e fun z t=>by cases t) e,fun a xs e=>⟨xs,b a _ (ne e fun z t=>by cases t) e⟩⟩
theorem DictT.mono{H H':Hp}{kvs:List (Key×V)}{acc:List Tr}(h:DictT H kvs acc)(k:Kd H H'):DictT H' kvs acc:=Paired.imp' (fun e t ⟨z,a,b,c,d⟩=>⟨z,a,b,c,d.mono k⟩) h
theorem DictT.len{H:Hp}{kvs:List (Key×V)}{acc:List Tr}(h:DictT H kvs acc):kvs.length=acc.length:=Paired.length h
theorem DictT.vals{H:Hp}{kvs:List (Key×V)}{acc:List Tr}(h:DictT H kvs acc):TrsAt H (kvs.map (·.2)) acc:=by
 unfold DictT at h
 induction h with
 |nil=>exact .nil
 |cons h1 _ a=>
  obtain⟨z,_,_,_,d⟩:=h1;exact .cons d a
theorem DictT.none_iff{H:Hp}{kvs:List (Key×V)}{acc:List Tr}{t:Tr}{z:Str}(h:DictT H kvs acc)(hg:Gt t)(hz:Dec.cl z=tmC t):valV kvs (Sum.inr z)=none↔¬t∈acc:=by
 have e:=dq (Sum.inr z:Key) kvs
 have e2:(kvs.any fun kv=>decide (kv.1=(Sum.inr z:Key)))=true↔t∈acc:=by
  clear e;unfold DictT at h
  induction h with
  |nil=>simp
  | @cons kv u kvs us h1 _ d=>
   rw[List.any_cons,Bool.or_eq_true,zc,d]
   have:decide (kv.1=(Sum.inr z:Key))=true↔t=u:=by
    obtain⟨f,a,b,g,_⟩:=h1;rw[decide_eq_true_iff,a];constructor
    . intro q;have c:=Sum.inr.inj q;subst c;exact hg.inj g (hz.symm.trans b)
    . rintro rfl;rw[Dec.cl_inj (b.trans hz.symm)]
   rw[this]
 rw[<-e2,e];cases valV kvs (Sum.inr z:Key)<;>simp
def CompD(n i:Nat)(D:Addr)(acc:List (Key×V))(Pv:Nat->List (Key×V)->Hp->Prop)(k:Key):VK:=fun v H7=>H7 D=some (.dK acc)/\acc.length < sizeLine/\∃m',m' < n - i/\(m'=n - (i+1)/\i+1<=n/\Pv (i+1) (putK acc k v) (upd H7 D (.dK (putK acc k v))))
theorem CompD.mk{n i:Nat}{D:Addr}{acc:List (Key×V)}{Pv:Nat->List (Key×V)->Hp->Prop}{k:Key}{v:V}{H7:Hp}(hi:i < n)(hl:acc.length < sizeLine)(h1:H7 D=some (.dK acc))(h2:Pv (i+1) (putK acc k v) (upd H7 D (.dK (putK acc k v)))):CompD n i D acc Pv k v H7:=
 ⟨h1,hl,n - (i+1),by omega,rfl,hi,h2⟩
theorem oX{K K':PySem.W.Frag}{a:Addr}{mp:List (Option Nat)}{tl:TE}{tk te:TE}{Q:VK}{σ rest:L2.St}{H H1:Hp}{xs:List V}(e:subS mp σ=none::none::rest)(ha:∀Q:VK,Q (.ref a) H1->tl σ H Q)(h1:SqT K H1 a xs)(h:∀D,H1 D=none->∃Pv:Nat->List (Key×V)->Hp->Prop,Pv 0 [] (upd H1 D (.dK []))/\(∀i acc H,Pv i acc H->SqT K H a xs)/\
  (∀i z acc H,i < xs.length->Pv i acc H->xs[i]?=some z->∃T x y,z= .ref T/\SqT K' H T [x,y]/\tk (some x::some y::rest) H fun yk H6=>∃k,yk=kV k/\te (some x::some y::rest) H6 (CompD xs.length i D acc Pv k))/\∀acc H,Pv xs.length acc H->Q (.ref D) H):
 kX mp (iTup K tl) (gTup K' 2 (be (aJ 0) (be (aJ 1) gNil))) cY tk te σ H Q:=by
 unfold kX;rw[e];refine ha _ ⟨a,rfl,⟨xs,h1⟩,fun D n=>?_⟩;obtain⟨Pv,f,j,ps,l⟩:=h D n;refine⟨fun i m acc H=>m=xs.length - i/\i<=xs.length/\Pv i acc H,⟨xs.length,by simp,zr _,f⟩,?_⟩
 rintro i m acc H ⟨rfl,hi,p⟩;have c:=j i acc H p;by_cases b:i < xs.length
 . refine .inr ⟨⟨xs,xs[i],c,by simp[b]⟩,?_⟩
   rintro v H' ⟨rfl,y⟩;obtain⟨T,x,z,rfl,g,d⟩:=ps i v acc _ b p (y xs c);exact⟨T,[x,z],rfl,g,rfl,x,[z],rfl,z,[],rfl,rfl,ext2,d⟩
 . have ei:i=xs.length:=by omega
   subst ei;exact .inl ⟨⟨xs,c,z4 _⟩,l acc H p⟩
end K39
namespace K39
open PySem L2 Mth Tre
theorem jJ{ns:List Int}{i:Int}(h0:0<=i)(h1:i < ns.length):∃(z:Int),atI (ns.map V.int) i=some (.int z)/\z=ns.getD i.toNat 0:=by
 obtain⟨j,rfl⟩:∃j:Nat,i=(j:Int):=⟨i.toNat,by omega⟩
 have a:j < ns.length:=by omega
 exact⟨ns[j],aI (by rw[z7,yZ a];rfl),by rw[Ad,zd,yZ a];rfl⟩
noncomputable def vC(z kk m:Int):Int:=(z%1000003+31*kk*kk+1)*48271%999983*7919%524287%m
noncomputable def eZ(ns:List Int)(kk m:Int):Int:=
 if ns.length=0 then vC 0 kk m else if ns.getD 0 0%2=1 then ns.getD (kk%(ns.length:Int)).toNat 0 / 2^(20*(kk / (ns.length:Int))+1).toNat%1048576%m else vC (ns.getD (kk%(ns.length:Int)).toNat 0) kk m
theorem gu{m:Int}(h0:0<=m)(h:m<=1000000000000):Big m:=by
 unfold Big;have:(1000000000000:Nat) < 2^8000:=by decide +kernel
 exact zg (by omega) this
section
variable{P:Program}{w:World}{K:PySem.W.Frag}{mg:Str->Option Value}{base:Heap}{T0:Addr}
def dY(K:PySem.W.Frag):Sp:=fun vs H Q _=>∃(a:Addr) (ns:List Int) (kk m:Int),vs= [.ref a, .int kk, .int m]/\SqL K H a (ns.map V.int)/\ns.length<=63/\0<=kk/\kk<=100000/\0 < m/\∀r:Int,0<=r->r < m->r=eZ ns kk m->Q (.int r) H
theorem scD:FnScope ["_law_script","_law_k","_law_many","_law_cell","_law_seed"] ["_law_script","_law_k","_law_many"] (ah qQ):= .of
theorem uK{f:Addr}{fd:FuncData}(F:Fun K "_law_draw" "_law_draw" qQ f fd)(B:Blt mg):FnOk P w K mg base CX0 1 f fd ["_law_script","_law_k","_law_many"] (dY K):=by
 refine F.okb scD fun vs H Q E h=>?_;refine hZq fun q_ e_=>?_;obtain⟨a,ns,kk,m,rfl,c,r,k0,k5,d,k⟩:=h;subst e_;refine⟨rfl,fun p A outer s hr=>?_⟩
 refine⟨_,ad (psA 3 scD.nd (dB (ax cr (av ar rfl B.le PySem.boot_len (a0 (pv 0) aa)) a9 (ay _))
  (ao aA (pv 0) (am c6 (pv 1) (av ar rfl B.le PySem.boot_len (a0 (pv 0) aa))) fun _ _=>rfl) a9))
  (ad (bG (PW.pt (dc (ax cr (av ar rfl B.le PySem.boot_len (a0 (pv 0) aa)) a9 (ay _)) (cZ (ax ci (am c6 (ao aA (pv 0) a9 fun _ _=>rfl) a9) a9 (ay _)))))
   (ai (az (am c6 (am c6 (am wy (pv 3) (am aS (am cN a9 (am mS (pv 1) (av ar rfl B.le PySem.boot_len (a0 (pv 0) aa)))) a9)) a9) (pv 2)))) aO)
  (ad (psA 4 scD.nd (am aS (am aS (am c6 (pv 3) a9) (am aR (am cN a9 (pv 1)) (pv 1))) a9))
  (ai (az (am c6 (am c6 (am cN (am c6 (am cN (pv 4) a9) a9) a9) a9) (pv 2)))))),?_⟩
 by_cases e:ns.length=0
 . have o:ns= []:=List.length_eq_zero_iff.mp e;subst o;refine⟨_,rfl,a,_,rfl, .inl c,_,0,rfl,rfl,_,rfl,?_⟩;refine iteF ?_;refine⟨_,rfl,a,_,rfl, .inl c,_,0,rfl,rfl,_,rfl,?_⟩;refine iteF ?_;refine iteF ?_;refine⟨_,rfl,0,1000003,rfl,rfl,(by show(0:Int) < 1000003;decide),_,rfl,31,kk,rfl,rfl, .inl ⟨by decide,by decide⟩,_,rfl,_,kk,rfl,rfl,⟨gu (by omega) (by omega),gu k0 (by omega)⟩,_,_,rfl,rfl,_,_,rfl,rfl,?_⟩
   refine⟨_,rfl,_,48271,rfl,rfl, .inr ⟨by decide,by decide⟩,_,999983,rfl,rfl,(by show(0:Int) < 999983;decide),_,7919,rfl,rfl, .inr ⟨by decide,by decide⟩,_,524287,rfl,rfl,(by show(0:Int) < 524287;decide),_,rfl,_,m,rfl,rfl,d,?_⟩
   exact k _ (Av _ (by omega)) (Ar _ d) rfl
 . have g:(0:Int) < (ns.length:Int):=by omega
   refine hZq fun q_ e_=>?_;obtain⟨z,hz,l⟩:=jJ (ns:=ns) (i:=kk%(ns.length:Int)) (Av _ (by omega)) (Ar _ g)
   obtain⟨y,hy,j⟩:=jJ (ns:=ns) (i:=0) (by omega) g
   subst e_;have n:decide ((0:Int) < (ns.length:Int))=true:=decide_eq_true g;refine⟨_,rfl,a,_,rfl, .inl c,_,0,rfl,rfl,_,rfl,?_⟩;rw[yY,n];refine iteT ?_;refine⟨_,rfl,_,rfl,_,rfl,a,_,rfl, .inl c,kk,_,rfl,rfl,(by rw[yY];omega),a,_,kk%(ns.length:Int), .int z,rfl,(by rw[yY]),c,hz,?_⟩
   refine⟨_,rfl,a,_,rfl, .inl c,_,0,rfl,rfl,_,rfl,?_⟩;rw[yY,n];refine iteT ?_;refine⟨_,rfl,a,_,0, .int y,rfl,rfl,c,hy,_,2,rfl,rfl,(by show(0:Int) < 2;decide),rfl,_,rfl,?_⟩
   refine ite2 (fun hd=>?_) (fun hd=>?_)
   . have hb:ns.getD 0 0%2=1:=by
      have:=of_decide_eq_true hd;rw[<-show y=ns.getD 0 0 from j];exact V.int.inj this
     refine⟨_,rfl,_,rfl,_,rfl,a,_,rfl, .inl c,kk,_,rfl,rfl,⟨by rw[yY];omega,by rw[yY];omega⟩,20,_,rfl,rfl, .inl ⟨by decide,by decide⟩,_,1,rfl,rfl,z,_,rfl,rfl,?_,_,1048576,rfl,rfl,(by show(0:Int) < 1048576;decide),_,rfl,_,m,rfl,rfl,d,?_⟩
     . have:=Int.ediv_nonneg k0 (b:=((ns.map V.int).length:Int)) (by omega)
       omega
     . exact k _ (Av _ (by omega)) (Ar _ d) (by subst l;unfold eZ;rw[if_neg e,if_pos hb,yY])
   . have hb:¬ns.getD 0 0%2=1:=by
      rw[<-show y=ns.getD 0 0 from j];exact fun q=>hd (decide_eq_true (congrArg V.int q))
     refine⟨_,rfl,z,1000003,rfl,rfl,(by show(0:Int) < 1000003;decide),_,rfl,31,kk,rfl,rfl, .inl ⟨by decide,by decide⟩,_,rfl,_,kk,rfl,rfl,⟨gu (by omega) (by omega),gu k0 (by omega)⟩,_,_,rfl,rfl,_,_,rfl,rfl,?_⟩
     refine⟨_,rfl,_,48271,rfl,rfl, .inr ⟨by decide,by decide⟩,_,999983,rfl,rfl,(by show(0:Int) < 999983;decide),_,7919,rfl,rfl, .inr ⟨by decide,by decide⟩,_,524287,rfl,rfl,(by show(0:Int) < 524287;decide),_,rfl,_,m,rfl,rfl,d,?_⟩
     exact k _ (Av _ (by omega)) (Ar _ d) (by subst l;unfold eZ;rw[if_neg e,if_neg hb];rfl)
open PySem L2 Mth Tre Wd Su Tw Fm
structure Gm (T:List Tr) (t:Tr):Prop where
 gt:Gt t
 dep:t.depth<=39
 len:(tmC t).length<=1000
 mem:t∈T
theorem yS{t:Tr}(h:Gt t):Dj.Hs t:=by
 cases h with
 |nm x hx=>exact⟨_,_,rfl⟩
 |ap f ts _ _ _ _=>exact⟨_,_,rfl⟩
def sumT(ps:List Pq):Tr:= .tup (ps.map prT)
def qm:Sp:=fun vs H Q _=>∃(l:Addr) (xs:List V) (pss:List (List Pq)) (T:List Tr),vs= [.ref l]/\H l=some (.lst xs)/\TrsAt H xs (pss.map sumT)/\(∀ps∈pss,∀p∈ps,Gm T p.1)/\T.length < 64/\
 ∀D ws us H',H D=none->Same H H'->H' D=some (.lst ws)->TrsAt H' ws us->us.Nodup->(∀x,x∈us↔∃ps∈pss,∃p∈ps,p.1=x)->Q (.ref D) H'
theorem scTmo:FnScope ["sums","found","pairs","term","share"] ["sums"] (ah sTmo):= .of
theorem wK{f:Addr}{fd:FuncData}(F:Fun K "terms_of" "terms_of" sTmo f fd)(B:Blt mg)(zS:Cl P w K mg base 41 "shown_term" ["term"] (spSt 40)):
 FnOk P w K mg base CX0 42 f fd ["sums"] qm:=by
 refine F.okb scTmo fun vs H Q E h=>?_;refine hZq fun q_ e_=>?_;obtain⟨l,xs,pss,T,rfl,hl,hT,hg,c3,k⟩:=h;subst e_;refine⟨rfl,fun cb A outer s hr=>?_⟩;have bR:(A.deeper (PyProof.Rows.envOfC (Str.ofString "terms_of") (ah sTmo) s.heap.objs.size f cb)).units+60 < cLine:=by have:=hr.units;omega
 refine⟨_,ad (psA 1 scTmo.nd rJ)
  (ad (bX PassesOwn.never rfl (bf (pv 0)) (pgA 2 scTmo.nd)
   (ai (bX PassesOwn.never rfl (dz (pv 2)) (bh rfl (aq (pgA 3 scTmo.nd) (aq (pgA 4 scTmo.nd) aV)))
    (ai (cA (gW PySem.F.plainAttrs_dict PySem.F.slot_dict_setdefault PySem.F.type_dict_setdefault iu (pv 1) (a0 (ak zS hr (a0 (pv 3) aa)) (a0 (pv 3) aa))))))))
  (ai (az (av (Dj.call_sortedV rfl bR) rfl B.so PyProof.Rows.boot_sorted (a0 (wx PySem.F.plainAttrs_dict PySem.F.slot_dict_values PySem.F.type_dict_values oF (pv 1)) aa))))),?_⟩
 have c2:(20000:Nat)<=sizeLine:=by decide +kernel
 intro d nd;have s1:Same H (upd H d (.dK [])):=ae nd;have b6:l≠d:=fun q=>by rw[q,nd]at hl;cases hl
 have bx:(upd H d (.dK [])) d=some (.dK []):=a8;have a6:=hT.len;rw[yY]at a6;refine⟨_,rfl,l,rfl,⟨xs,SqL.of (s1 _ _ hl)⟩,?_⟩
 refine eY (xs:=xs) (fun i σ H'=>(∃v2 v3 v4,σ= [some (.ref l),some (.ref d),v2,v3,v4])/\But1 d (upd H d (.dK [])) H'/\∃kvs' v,H' d=some (.dK kvs')/\DictT H' kvs' v/\v.Nodup/\(∀x,x∈v↔∃ps∈pss.take i,∃p∈ps,p.1=x))
  ⟨⟨none,none,none,rfl⟩,fun x o _ e=>e,[],[],bx, .nil,AK,fun x=>by simp⟩ (fun i σ H' _ p=>SqL.of (p.2.1 _ _ b6 (s1 _ _ hl))) ?_ ?_
 . intro i x σ H' ex z_;refine hZq fun q_ e_=>?_;obtain⟨⟨v2,v3,v4,rfl⟩,b1,kvs',v,bb,b8,bj,bB⟩:=z_;obtain⟨u,eu,hu⟩:=hT.get' ex;rw[z7]at eu;obtain⟨ps,ep,rfl⟩:=zf.mp eu;have bC:=za ep;have bY:Kd H H':=(Kd.of_same s1).trans (b1.kd bx);obtain⟨au,ys,rfl,a4,bI⟩:=at_t (hu.mono bY);subst e_;have yl:=bI.len;rw[yY]at yl;have cd:au≠d:=fun q=>by rw[q,bb]at a4;cases a4
   have cp:∀x∈v,x∈T:=fun x m=>by
    refine hZq fun q_ e_=>?_;obtain⟨qs,mq,p,mp,rfl⟩:=(bB x).mp m;subst e_;exact(hg qs (At mq) p mp).mem
   refine⟨_,rfl,au,rfl,⟨ys,SqT.of a4⟩,?_⟩
   refine jy (xs:=ys) (fun j σ a5=>(∃v3 v4,σ= [some (.ref l),some (.ref d),some (.ref au),v3,v4])/\But1 d H' a5/\∃a3 aT,a5 d=some (.dK a3)/\DictT a5 a3 aT/\aT.Nodup/\(∀x,x∈aT↔x∈v\/∃p∈ps.take j,p.1=x))
    ⟨⟨v3,v4,rfl⟩,fun x o _ e=>e,kvs',v,bb,b8,bj,fun x=>by simp⟩ (fun i σ a5 _ p=>SqT.of (p.2.1 _ _ cd a4)) ?_ ?_
   . intro j z σ H2 ez z_;refine hZq fun q_ e_=>?_;obtain⟨⟨v3,v4,rfl⟩,b2,c,n,af,a2,r,ac⟩:=z_;have b7:Kd H' H2:=b2.kd bb;obtain⟨t',bi,cm⟩:=(bI.mono b7).get' ez;rw[z7]at bi;obtain⟨⟨tm,fr⟩,eq,rfl⟩:=zf.mp bi;obtain⟨T',x,y,rfl,cI,hx,hy⟩:=bL cm;subst e_;have g:=hg ps bC _ (za eq);refine⟨T',_,rfl,SqT.of cI,rfl,_,_,rfl,_,_,rfl,rfl,?_⟩;refine⟨_,rfl, .inr (.inr (.inl ⟨rfl, .inl ⟨c,af⟩⟩)),_,rfl,x,tm,rfl,hx,g.gt.ty,(by have:tm.depth<=39:=g.dep;omega),g.len,fun z H3 s3 a7=>⟨_,rfl,?_⟩⟩
     have bg:=s3 _ _ af;have a1:=a2.mono (Kd.of_same s3)
     have bw:∀x∈n,x∈T:=fun x m=>by
      rcases(ac x).mp m with m|⟨p,mp,rfl⟩
      . exact cp x m
      . exact(hg ps bC p (At mp)).mem
     have l2:=sub_len r bw;refine⟨d,c,Sum.inr z,x,rfl,rfl,bg,by rw[a1.len];omega,fun y' ev=>?_,fun ev=>?_⟩
     . have mt:tm∈n:=by
        by_cases m:tm∈n
        . exact m
        . rw[(a1.none_iff g.gt a7).mpr m]at ev;cases ev
       refine⟨⟨_,_,rfl⟩,b2.trans (But1.of_same s3),c,n,bg,a1,r,fun x=>?_⟩;rw[ac,aD eq];simp only[zv,zw];constructor
       . rintro(h|⟨p,mp,e⟩)
         . exact .inl h
         . exact .inr ⟨p, .inl mp,e⟩
       . rintro(h|⟨p,mp|rfl,e⟩)
         . exact .inl h
         . exact .inr ⟨p,mp,e⟩
         . exact(ac x).mp (e▸mt)
     . have mo:=(a1.none_iff g.gt a7).mp ev;have bF:Kd H3 (upd H3 d (.dK (c++ [(Sum.inr z,x)]))):=Dj.Kd.updK bg;refine⟨⟨_,_,rfl⟩,(b2.trans (But1.of_same s3)).trans fun x o nx e=>by rw[ag nx];exact e,c++ [(Sum.inr z,x)],n++ [tm],a8,Paired.snoc (a1.mono bF) ⟨z,rfl,a7,g.gt,(hx.mono (Kd.of_same s3)).mono bF⟩,?_,fun x=>?_⟩
       . rw[List.nodup_append];exact⟨r,by simp,fun a ma b mb=>by rw[zw.mp mb];exact fun q=>mo (q▸ma)⟩
       . rw[zv,ac,aD eq];simp only[zv,zw];constructor
         . rintro((h|⟨p,mp,e⟩)|h)
           . exact .inl h
           . exact .inr ⟨p, .inl mp,e⟩
           . exact .inr ⟨_, .inr rfl,h.symm⟩
         . rintro(h|⟨p,mp|rfl,e⟩)
           . exact .inl (.inl h)
           . exact .inl (.inr ⟨p,mp,e⟩)
           . exact .inr e.symm
   . intro σ H2 z_;refine hZq fun q_ e_=>?_;obtain⟨⟨v3,v4,rfl⟩,b2,c,n,af,a2,r,ac⟩:=z_;subst e_;rw[yl,zx]at ac;refine⟨⟨_,_,_,rfl⟩,b1.trans b2,c,n,af,a2,r,fun x=>?_⟩;rw[ac,bB,aD ep];simp only[zv,zw];constructor
     . rintro(⟨qs,mq,h⟩|h)
       . exact⟨qs, .inl mq,h⟩
       . exact⟨ps, .inr rfl,h⟩
     . rintro⟨qs,mq|rfl,h⟩
       . exact .inl ⟨qs,mq,h⟩
       . exact .inr h
 . intro σ H2 z_;refine hZq fun q_ e_=>?_;obtain⟨⟨v2,v3,v4,rfl⟩,b2,c,n,af,a2,r,ac⟩:=z_;subst e_;rw[a6,zx]at ac;refine⟨_,rfl, .inr (.inr (.inl ⟨rfl, .inl ⟨c,af⟩⟩)),d,c,rfl,rfl,af,fun x nx=>?_⟩;have s3:Same H2 (upd H2 x (bH x d)):=ae nx
   have aC:∀t∈n,Gm T t:=fun t m=>by
    refine hZq fun q_ e_=>?_;obtain⟨qs,mq,p,mp,rfl⟩:=(ac t).mp m;subst e_;exact hg qs mq p mp
   have c4:n.length<=T.length:=sub_len r fun y my=>(aC y my).mem;refine⟨x,d,c,n,rfl,a8,s3 _ _ af,a2.vals.mono (Kd.of_same s3),by omega,fun t m=>⟨yS (aC t m).gt,cX (aC t m).gt.ty,by have:=(aC t m).dep;omega⟩,fun t m u m'=>m9 40 (by have:=(aC t m).dep;omega) (aC t m).gt.ty (aC u m').gt.ty,fun D ws us nD hp bT db=>?_⟩
   have sH:Same H (upd (upd H2 x (bH x d)) D (.lst ws)):=fun y o e=>ae nD _ _ (s3 _ _ (b2 y o (aE e nd) (s1 _ _ e)));refine k D ws us _ ?_ sH a8 (bT.mono (Kd.of_same (ae nD))) (hp.nodup_iff.mpr r) fun y=>by rw[hp.mem_iff,ac]
   have n2:=s3.free nD
   cases e:H D with
   |none=>rfl
   |some o=>rw[b2 D o (aE e nd) (s1 _ _ e)]at n2;cases n2
open Classical in
noncomputable def cw(s:Int)(t:Tr):List Pq->Int
 | []=>0
 |p::r=>if p.1=t then wh p.2 s else cw s t r
theorem nU{s:Int}{t:Tr}{p:Pq}:∀ {a:List Pq},p.1≠t->cw s t (a++ [p])=cw s t a
 | [],h=>by simp[cw,h]
 |q::r,h=>by
  simp only[zX,cw];split
  . rfl
  . exact nU h
theorem tD{s:Int}{t:Tr}{p:Pq}:∀ {a:List Pq},p.1=t->(∀q∈a,q.1≠t)->cw s t (a++ [p])=wh p.2 s
 | [],h,_=>by simp[cw,h]
 |q::r,h,hn=>by
  simp only[zX,cw];rw[if_neg (hn q z6)];exact tD h fun x m=>hn x (z5 _ m)
theorem vO{s:Int}{t:Tr}{e:Nat}{M:Nat}:∀ {a:List Pq},(∀p∈a,0 < p.2.2/\p.2.1.natAbs<=M)->(cw s t a).natAbs<=M*s.natAbs
 | [],_=>by simp[cw]
 |q::r,h=>by
  simp only[cw];split
  . exact zh (m6 (h q z6).1) (As _ (h q z6).2)
  . exact vO (e:=e) fun p m=>h p (z5 _ m)
theorem eF{te:TE}{i:Nat}{u:TS}{Z:Ends}{σ:L2.St}{H:Hp}(h:te σ H fun v H1=>aJ i v σ H1 (u Z)):tSeq (tAsg te (aJ i)) u Z σ H:=h
def qI:Sp:=fun vs H Q _=>∃(v:V) (ps:List Pq) (lt:Addr) (ws:List V) (us T:List Tr) (s:Int) (e:Nat),vs= [v, .ref lt, .int s]/\TrAt H v (sumT ps)/\Asc ps/\(∀p∈ps,Gm T p.1/\Gq e p)/\e<=8000/\Big s/\T.length < 64/\
 H lt=some (.lst ws)/\TrsAt H ws us/\(∀t∈us,Gm T t)/\us.length < 64/\∀l H',H l=none->Same H H'->H' l=some (.lst ((us.map fun t=>cw s t ps).map V.int))->Q (.ref l) H'
theorem scCto:FnScope ["pairs","terms","scale","counts"] ["pairs","terms","scale"] (ah sCto):= .of
theorem xa{f:Addr}{fd:FuncData}(F:Fun K "counts_of" "counts_of" sCto f fd)(zS:Cl P w K mg base 41 "shown_term" ["term"] (spSt 40))(zW:Cl P w K mg base 1 "whole_of" ["share","scale"] me):
 FnOk P w K mg base CX0 42 f fd ["pairs","terms","scale"] qI:=by
 refine F.okb scCto fun vs H Q E h=>?_;refine hZq fun q_ e_=>?_;obtain⟨v,ps,lt,ws,us,T,sc,e,rfl,hv,o,a4,he,bb,bF,bj,af,a7,ul,k⟩:=h;subst e_;refine⟨rfl,fun bI A outer s hr=>?_⟩;have a6:=vK hr;have bw:Room 1 _:=hr.mono (by decide)
 have a2:(["term","share","scale"]:List Str).Nodup:=by decide +kernel
 have bg:(["term","counts"]:List Str).Nodup:=by decide +kernel
 refine⟨_,ad (psR 3 scCto.nd (rN (NC:= ["term","share","scale"]) (mp:= [none,none,some 2]) (g:=gTup K 2 (be (aJ 0) (be (aJ 1) gNil))) rfl (dz (pv 0))
  (fun _ _ _ _ _=>bh (n:=2) rfl (aq (pgA 0 a2) (aq (pgA 1 a2) aV))) (fun _ _ _ _ _=>aZ)
  (fun _ _ _ _ _=>ak zS hr (a0 (pv 0) aa)) (fun _ _ _ _ _=>ak zW bw (a0 (pv 1) (a0 (pv 2) aa)))))
  (ai (az (aQ (NC:= ["term","counts"]) (mp:= [none,some 3]) rfl (bf (pv 1)) (fun _ _ _ _ _=>pgA 0 bg) (fun _ _ _ _ _=>aZ)
   (fun _ _ _ _ _=>rM a6 (pv 1) (ak zS hr (a0 (pv 0) aa)) a9 ⟨rfl,rfl,rfl,rfl⟩)))),?_⟩
 have bB:(20000:Nat)<=sizeLine:=by decide +kernel
 refine hZq fun q_ e_=>?_;obtain⟨au,xs,rfl,a1,aC⟩:=at_t hv;subst e_;have xl:=aC.len;rw[yY]at xl;have pl:=asc_len o fun u m=>(a4 u m).1.mem;refine eF ?_;refine oX (K':=K) (xs:=xs) (rest:= [some (.int sc)]) (a:=au) rfl (fun Q q=>⟨_,rfl,q⟩) (SqT.of a1) fun L nL=>?_;refine⟨fun j acc H'=>Same H H'/\H' L=some (.dK acc)/\acc.length<=j/\∀(t:Tr) (z:Str),Gt t->Dec.cl z=tmC t->(valV acc (Sum.inr z)).getD (.int 0)= .int (cw sc t (ps.take j)),⟨ae nL,a8,z4 _,fun t z _ _=>by rw[Ak];rfl⟩,fun j bC H' p=>SqT.of (p.1 _ _ a1),?_,?_⟩
 . rintro j z acc H' hj ⟨l,hL,a5,b⟩ ez;refine hZq fun q_ e_=>?_;obtain⟨t',aT,bi⟩:=(aC.mono (Kd.of_same l)).get' ez;rw[z7]at aT;obtain⟨⟨tm,fr⟩,eq,rfl⟩:=zf.mp aT;obtain⟨T',x,y,rfl,bx,hx,hy⟩:=bL bi;obtain⟨g,gq⟩:=a4 _ (za eq);subst e_;have jl:j < ps.length:=(zb.mp eq).1;refine⟨T',x,y,rfl,SqT.of bx,?_⟩;refine⟨_,rfl,x,tm,rfl,hx,g.gt.ty,(by have:tm.depth<=39:=g.dep;omega),g.len,fun z H6 r c=>⟨Sum.inr z,rfl,?_⟩⟩
   refine⟨_,rfl,_,rfl,y,fr,sc,rfl,hy.mono (Kd.of_same r),gq.gf.pos,gq.gf.bot.big (by omega),gq.gf.top.big (by omega),bb,?_⟩
   refine CompD.mk hj (by omega) (r _ _ hL) ⟨aH nL (l.trans r),a8,?_,fun t z' gt ac=>?_⟩
   . have:=fS acc (Sum.inr z) (.int (wh fr sc));omega
   . rw[p9,aD eq];by_cases q:(Sum.inr z':Key)=Sum.inr z
     . rw[if_pos q];have q':=Sum.inr.inj q;subst q';have et:t=tm:=gt.inj g.gt (ac.symm.trans c);subst et;rw[tD (p:=(t,fr)) (t:=t) rfl fun q mq=>?_]
       . rfl
       . obtain⟨i,hi,e1⟩:=Ah mq;rw[zG]at hi;rw[List.getElem_take]at e1;have:=A6.mp o i j (by omega) jl (by omega)
         rw[e1,show ps[j]=(t,fr)from(zb.mp eq).2]at this;exact mY this
     . rw[if_neg q,b t z' gt ac,nU];intro h;have h':tm=t:=h;subst h';exact q (by rw[Dec.cl_inj (ac.trans c.symm)])
 intro kvs H1 z_;refine hZq fun q_ e_=>?_;obtain⟨s1,hL,a5,b⟩:=z_;subst e_;rw[xl,zx]at b;have d:=s1 _ _ bj;have wl:=af.len;refine⟨_,rfl,lt,rfl,⟨ws,SqL.of d⟩,fun D nD=>?_⟩;refine bN (xs:=ws) (fun j acc H'=>Same H1 H'/\H' D=some (.lst acc)/\acc=((us.take j).map fun t=>cw sc t ps).map V.int) ⟨ae nD,a8,rfl⟩ (fun j acc H' p=>SqL.of (p.1 _ _ d)) ?_ ?_
 . intro j x acc H' hj ex z_;refine hZq fun q_ e_=>?_;obtain⟨l,hD,rfl⟩:=z_;obtain⟨t,et,ht⟩:=(af.mono (Kd.of_same (s1.trans l))).get' ex;subst e_;have g:=a7 t (za et);have a3:=l _ _ hL;refine⟨_,rfl,L,rfl, .inl ⟨kvs, .inl a3⟩,?_⟩;refine⟨_,rfl,x,t,rfl,ht,g.gt.ty,(by have:=g.dep;omega),g.len,fun z H6 r c=>⟨_,DGet.k (k:=Sum.inr z) (r _ _ a3),?_⟩⟩
   have jl:j < us.length:=(zb.mp et).1;refine CompN.mk hj (by rw[yY,yY,zG];omega) (r _ _ hD) ⟨aH nD (l.trans r),a8,?_⟩
   rw[b t z g.gt c,aD et];simp
 . rintro acc H2 ⟨l,hD,rfl⟩;rw[wl,zx]at hD;exact k D H2 (s1.free nD) (s1.trans l) hD
end
end K39
namespace Zp
open PySem
section
variable{prog:Program}{w:World}{A:Around}{E:Value->Shared->Prop}{s:Shared}{k:Src}{z TI TO i1 i2 l1 l2:Addr}{j:Nat}{xs ys:Array Value}{x y a b:Value}
end
end Zp
namespace L2
open PySem PySem.Spec PyProof.Rows Zp
section
variable{X:Cx}
end
end L2
namespace Dj
open PySem PySem.Spec PyProof.Rows L2 Tre
noncomputable def kU(P:Program)(w:World)(K:PySem.W.Frag)(mp:List (Option Nat))(wi:TI)(g:TG)(tc:TT)(tk te:TE):TE:=fun σ H Q=>wi σ H fun J H1=>∀D,H1 D=none->
 ∃W:Nat->Nat->List Ent->Hp->Prop,(∃m,W 0 m [] (upd H1 D (dJ P w D [])))/\∀i m acc H2,W i m acc H2->
  (J.stop i H2/\Q (.ref D) H2)\/
  (J.go i H2/\∀x H3,J.yld i H2 x H3->g x (subS mp σ) H3 fun σ4 H4=>Ext (subS mp σ) σ4/\tc σ4 H4 fun b H5=>if b=true then tk σ4 H5 fun y H6=>∃b k,y= .ref b/\te σ4 H6 fun v H7=>DJ P w K H7 D acc/\KeyAt K H7 k b/\acc.length < sizeLine/\∃m',m' < m/\W (i+1) m' (putJ acc k b v) (upd H7 D (dJ P w D (putJ acc k b v)))
   else∃m',m' < m/\W (i+1) m' acc H5)
section
variable{X:Cx}{pins:List (Addr×Obj)}{σ:L2.St}{H:Hp}{s:Shared}
variable{kx vx target iter:Expr}{ifs:List Expr}{scope:Scope}{NC:List Str}{mp:List (Option Nat)}{pos:Pos}{wi:TI}{g:TG}{tc:TT}{tk te:TE}
theorem pe_compJ(hcalm:X.calm=true)(hu:X.A.units+30 < cLine)(hi:PI X target iter wi)(hg:∀C s H fp pn,PG (XC X scope NC C s H fp pn) target g)(ht:∀C s H fp pn,PTs (XC X scope NC C s H fp pn) ifs tc)(hkx:∀C s H fp pn,PE (XC X scope NC C s H fp pn) kx tk)(he:∀C s H fp pn,PE (XC X scope NC C s H fp pn) vx te)(hl:mp.length=NC.length:=by rfl)(hm:gZ X.N NC mp scope.names X.env.scope.names=true:=by rfl)(hc:bK scope.names X.env.cells=true:=by rfl)(hk:scope.kind= .function:=by rfl)(hnc:∀y∈scope.names,y.2≠ .cell:=by decide +kernel)(hnm:∀y∈scope.names,y.2= .local->scope.names.lookup y.1=some .local:=by decide +kernel)(hs:∀x,foldedSetIterable iter X.env x=pure x:=by intro _;rfl):
 PE X (.DictComp kx vx [⟨target,iter,ifs,0⟩] scope pos) (kU X.prog X.w X.K mp wi g tc tk te):=by
 intro pins s σ H Q I h;rw[arm_eval_DictComp];refine wpAny_comprehension_free (use:=none) rfl hs (gj hc) hk hnm (thn (hi pins s σ H _ I h) fun v s1 h1=>thn h1 fun d0 f h2=>?_);refine hZq fun q_ e_=>?_;obtain⟨it,fp,tn,J,H2,e,I2,T,a5,f2,W⟩:=h2;subst e_;subst e;refine wpAny_newObj_type ?_;have nD:H2 f.heap.objs.size=none:=I2.hok.fresh (z4 _)
 have I3:Inv X pins σ (upd H2 f.heap.objs.size (dJ X.prog X.w f.heap.objs.size [])) {f with heap:=f.heap.push {cls:= .type "dict",data:= .dict #[]}}:=
  I2.laid (t':=f.toks) (fun b u e=>Heap.get?_push_of_some _ e) (z4 _) (kA f.heap I2.big)
 refine hZq fun q_ e_=>?_;obtain⟨W,⟨m0,w0⟩,turn⟩:=W _ nD;subst e_
 have bi:∀b∈fp,b < f.heap.objs.size:=fun b hb=>by
  obtain⟨o,e,_⟩:=T.obj 0 _ a5 b hb;exact Heap.lt_size e
 have cd:∀b∈fp,b≠f.heap.objs.size:=fun b hb=>zp (bi b hb)
 have f3:∀b∈fp,FpOk X pins (upd H2 f.heap.objs.size (dJ X.prog X.w f.heap.objs.size [])) b:=fun b hb=>by
  obtain⟨g0,g1⟩:=f2 b hb;exact⟨by rw[ag (cd b hb)];exact g0,g1⟩
 have bj:tn 0 (f.heap.push {cls:= .type "dict",data:= .dict #[]}):=T.keep 0 _ _ a5 fun b _ o e=>Heap.get?_push_of_some _ e
 have a1:∀b∈fp,b < (f.heap.push {cls:= .type "dict",data:= .dict #[]}).objs.size:=fun b hb=>by
  rw[Heap.size_push];exact Ai (bi b hb)
 generalize hD:f.heap.objs.size=D at*;generalize bY:({f with heap:=f.heap.push {cls:= .type "dict",data:= .dict #[]}}:Shared)=a at*;have c3:a.heap=f.heap.push {cls:= .type "dict",data:= .dict #[]}:=by rw[<-bY]
 rw[<-c3]at bj a1;generalize dI:upd H2 D (dJ X.prog X.w D [])=H3 at*;refine wpAny_newFunctionEnv (around:=some X.env) hnc (by intro y hy;cases hy) (fun h4 cb a4=>?_) hk
 have a7:∀b o,a.heap.get? b=some o->h4.get? b=some o:=fun b o e=>a4.extBut b o (zp (Heap.lt_size e)) (Heap.get?_push_of_some _ e);have I4:=I3.block (tk:=a.toks+([]:List (Str×Value)).length) f3 a1 hk hnc hc hl hm a7 cb;have bw:tn 0 h4:=T.keep 0 _ _ bj fun b _ o e=>a7 b o e
 have fin:∀(s5:Shared) (σ5:L2.St) (H5:Hp),Inv (XC X scope NC a.heap.objs.size a H3 fp (X.pn++pins)) [] σ5 H5 s5->Q (.ref D) H5->compPost (model X.prog X.w) X.A X.xe none (EP X pins σ Q) (.ref D) a.heap.objs.size (.ok .next) s5:=by
  intro s5 σ5 H5 I5 q5;obtain⟨m5,c4,_⟩:=id I5.loc;refine⟨m5,c4,fun h6 bB=>⟨.ref D,H5,?_,rfl,q5⟩⟩;have af:∀b o,b≠a.heap.objs.size->s5.heap.get? b=some o->h6.get? b=some o:=fun b o hb e=>bB.extBut b o hb e;have nC:∀b o,a.heap.get? b=some o->b≠a.heap.objs.size:=fun b o e=>zp (Heap.lt_size e);have un:Un (frs X.stack) fp H3 H5 a.heap s5.heap:=I5.base;have j:H5 a.heap.objs.size=none:=I5.free;refine I3.call' (s':= {s5 with heap:=h6}) (ch:=fp) I5.os ⟨fun b o e n hb hx=>af b o (nC b o e) (un.keep b o e n hb hx),fun b o e n hb hx=>?_,un.free,fun b o e hx=>?_,un.tups,un.frzs,un.tbls⟩ ?_ I5.bare (fun b hb=>?_)
  . obtain⟨sl,e1⟩:=un.slot b o e n hb hx;exact⟨sl,af b _ (nC b o e) e1⟩
  . obtain⟨o',e1⟩:=un.there b o e hx;exact⟨o',af b o' (nC b o e) e1⟩
  . intro b o e;have nb:b≠a.heap.objs.size:=fun z=>by rw[z,j]at e;cases e
    refine(I5.hok b o e).stay (fun c v bF r=>af c v ?_ r) (fun _ r=>r) fun _ _ r=>r;rcases bF with z|z
    . rw[z];exact nb
    . intro y;rw[y,j]at z;cases z
  . refine hZq fun q_ e_=>?_;obtain⟨g0,g1,g2,g3,g4,g5⟩:=f3 b hb;subst e_;exact⟨g3,g1,g4,g5⟩
 have loop:codeAny (model X.prog X.w) X.A (.compLoop (.DictComp kx vx [⟨target,iter,ifs,0⟩] scope pos) 0 (.ref it) (.ref D) (compEnvC scope (c7 scope.names X.env.cells []) a.heap.objs.size X.env)) (compPost (model X.prog X.w) X.A X.xe none (EP X pins σ Q) (.ref D) a.heap.objs.size)
  {a with heap:=h4,toks:=a.toks+([]:List (Str×Value)).length}:=by
  refine fW (fun n s'=>∃i acc σ' H',Inv (XC X scope NC a.heap.objs.size a H3 fp (X.pn++pins)) [] σ' H' s'/\Ext (subS mp σ) σ'/\tn i s'.heap/\(∀b∈fp,H' b=none)/\W i n acc H') ?_ m0
   ⟨0,[],subS mp σ,H3,I4,fun _ _ e=>e,bw,fun b hb=>(f3 b hb).1,w0⟩
  intro n s5 z_;refine hZq fun q_ e_=>?_;obtain⟨i,acc,σ5,H5,I5,hσ,bg,bb,w5⟩:=z_;subst e_;have a6:Inv (XC X scope NC a.heap.objs.size a H3 fp (X.pn++pins)) [] (subS mp σ) H5 s5:=I5.weak (by rw[I5.len];unfold subS;rw[yY];exact hl) hσ
  have aT:∀ {H':Hp},(∀b∈fp,H' b=none)->∀b∈fp,FpOk (XC X scope NC a.heap.objs.size a H3 fp (X.pn++pins)) [] H' b:=fun hn b hb=>by
   refine hZq fun q_ e_=>?_;obtain⟨g0,g1,g2,g3,g4,g5⟩:=f3 b hb;subst e_;refine⟨hn b hb,zp (a1 b hb),?_, .inl hb,(I4.ok.exf b hb).2,fun p hp=>g5 p (by simpa using hp)⟩
   exact I4.ok.exfs b hb
  rcases turn i n acc H5 w5 with⟨stop,q⟩|⟨go,step⟩
  . refine thn (T.done (XC X scope NC a.heap.objs.size a H3 fp (X.pn++pins)) rfl rfl rfl hcalm i [] s5 _ H5 (fun _ _=>False) a6 (aT bb) bg stop) fun r s6 ⟨hr,I6⟩=>?_;subst hr;exact fin s6 _ H5 I6 q
  . refine thn (T.item (XC X scope NC a.heap.objs.size a H3 fp (X.pn++pins)) rfl rfl rfl hcalm i [] s5 _ H5 (fun _ _=>False) a6 (aT bb) bg go) fun r s6 ⟨u,hr,h6⟩=>?_;subst hr;refine thn h6 fun _ s7 ⟨x,H7,I7,r7,y7,a2,db⟩=>?_;have cp:=I7.pinned (aT db) (T.obj _ _ a2);refine thn (hg _ _ _ _ _ _ s7 _ H7 x u _ cp r7 (step x H7 y7)) fun _ s8 ⟨σ8,H8,I8,au,q8⟩=>?_;refine thn (ht _ _ _ _ _ _ s8 σ8 H8 _ I8 q8) fun ok s9 ⟨H9,I9,q9⟩=>?_
    have again:∀ {σ':L2.St} {H':Hp} {s':Shared} {l:List Ent} {m':Nat},Inv (XC X scope NC a.heap.objs.size a H3 fp (X.pn++pins)) ([]++dy fp s7.heap) σ' H' s'->Ext (subS mp σ) σ'->m' < n->W (i+1) m' l H'->
     ∃m,m < n/\∃i acc σ' H',Inv (XC X scope NC a.heap.objs.size a H3 fp (X.pn++pins)) [] σ' H' s'/\Ext (subS mp σ) σ'/\tn i s'.heap/\(∀b∈fp,H' b=none)/\W i m acc H':=by
     intro σ' H' s' l m' I' bC t w';refine⟨m',t,i+1,l,σ',H',I'.unpinned,bC,T.keep _ _ _ a2 fun b hb o e=>(I'.pin (b,o) (zm _ (zm _ (ba hb e)))).1,fun b hb=>?_,w'⟩;obtain⟨o,e,d⟩:=T.obj _ _ a2 b hb;exact(I'.pin (b,o) (zm _ (zm _ (ba hb e)))).2.1
    cases ok with
    |false=>
     rw[if_neg zo]at q9;rw[if_neg zo];obtain⟨m',t,w'⟩:=q9;exact again I9 au t w'
    |true=>
     rw[if_pos rfl]at q9;rw[if_pos rfl];refine thn (hkx _ _ _ _ _ _ s9 σ8 H9 _ I9 q9) fun kv c2 ⟨y,b6,b7,b8,b,k,ek,qv⟩=>?_;subst ek;obtain rfl:kv=Value.ref b:=b8;refine thn (he _ _ _ _ _ _ c2 σ8 b6 _ b7 qv) fun v dV ⟨z,dH,ac,bI,a3,kb,hz,m',t,w'⟩=>?_;refine hZq fun q_ e_=>?_;obtain⟨z1,cI,bx,aC,bT⟩:=fc ac.hok ac.kIn a3;subst e_;have cm:bx.length<=sizeLine:=by rw[<-Paired.length aC];exact z1
     have bR:(putJ acc k b z).length<=sizeLine:=by have:=fT acc k b z;omega
     refine wpAny_dictSet_heap (hsz:=cm) (by show X.A.units+20 < cLine;omega) (kb.is ac.hok ac.kIn) bT fun h' dj hs=>?_
     refine hZq fun q_ e_=>?_;obtain⟨q,es,ep,hq,h2,h3,h4,_,h5⟩:=dj;subst e_;exact again (fe ac (by rw[a3.at_];exact True.intro) hs ⟨q,hq⟩ (jz bR cI (aC.put k bI) ⟨q,es,ep,hq,h2,h3,h4,h5⟩)) au t w'
 exact codeAny_compStart_dict loop (T.self _ 0 _ _ _ bw loop)
end
end Dj
namespace L2
open PySem PySem.Spec PyProof.Rows
theorem lV{K:PySem.W.Frag}{a:Addr}{mp:List (Option Nat)}{ta:TA}{g:TG}{tc:TT}{te:TE}{Q:VK}{σ:L2.St}{H1:Hp}{xs:List V}(ha:∀Q:List V->Hp->Prop,Q [.ref a] H1->ta σ H1 Q)(h1:SqL K H1 a xs)(h:∀D,H1 D=none->∃Pv:Nat->List V->Hp->Prop,Pv 0 [] (upd H1 D (.lst []))/\(∀i acc H,Pv i acc H->SqL K H a xs)/\
  (∀i T x acc H,i < xs.length->i < sizeLine->Pv i acc H->xs[i]?=some x->H T=none->g (.ref T) (subS mp σ) (upd H T (.tup [.int i,x])) fun σ4 H4=>Ext (subS mp σ) σ4/\tc σ4 H4 fun b H5=>if b=true then te σ4 H5 (CompN xs.length i D acc Pv)else CompS xs.length i acc Pv H5)/\∀acc H,Pv xs.length acc H->Q (.ref D) H):
 cq mp (vJ K ta) g tc te σ H1 Q:=by
 unfold cq;refine ha _ ⟨a,xs,rfl,h1,fun D k=>?_⟩;obtain⟨Pv,e,f,ps,j⟩:=h D k;refine⟨fun i m acc H=>m=xs.length - i/\i<=xs.length/\Pv i acc H,⟨xs.length,by simp,zr _,e⟩,?_⟩
 rintro i m acc H ⟨rfl,hi,p⟩;have d:=f i acc H p;by_cases c:i < xs.length
 . refine .inr ⟨⟨xs,xs[i],d,by simp[c]⟩,?_⟩
   rintro v H' ⟨T,x,rfl,l,rfl,y1,z⟩;exact ps i T x acc H c z p (y1 xs d) l
 . have ei:i=xs.length:=by omega
   subst ei;exact .inl ⟨⟨xs,d,z4 _⟩,j acc H p⟩
theorem iQ{K:PySem.W.Frag}{a b:Addr}{mp:List (Option Nat)}{ta:TA}{g:TG}{tc:TT}{te:TE}{Q:VK}{σ:L2.St}{H1:Hp}{xs ys:List V}(hl:xs.length<=ys.length)(ha:∀Q:List V->Hp->Prop,Q [.ref a, .ref b] H1->ta σ H1 Q)(h1:SqL K H1 a xs)(h2:SqL K H1 b ys)(h:∀D,H1 D=none->∃Pv:Nat->List V->Hp->Prop,Pv 0 [] (upd H1 D (.lst []))/\(∀i acc H,Pv i acc H->SqL K H a xs/\SqL K H b ys)/\
  (∀i T x y acc H,i < xs.length->i < sizeLine->Pv i acc H->xs[i]?=some x->ys[i]?=some y->H T=none->g (.ref T) (subS mp σ) (upd H T (.tup [x,y])) fun σ4 H4=>Ext (subS mp σ) σ4/\tc σ4 H4 fun b H5=>if b=true then te σ4 H5 (CompN xs.length i D acc Pv)else CompS xs.length i acc Pv H5)/\∀acc H,Pv xs.length acc H->Q (.ref D) H):
 cq mp (iZip .lst K ta) g tc te σ H1 Q:=by
 unfold cq;refine ha _ ⟨a,b,xs,ys,rfl,h1,h2,fun D n=>?_⟩;obtain⟨Pv,f,j,ps,l⟩:=h D n;refine⟨fun i m acc H=>m=xs.length - i/\i<=xs.length/\Pv i acc H,⟨xs.length,by simp,zr _,f⟩,?_⟩
 rintro i m acc H ⟨rfl,hi,p⟩;obtain⟨d,e⟩:=j i acc H p;by_cases c:i < xs.length
 . refine .inr ⟨⟨xs,ys,xs[i],ys[i]'(by omega),d,e,by simp[c],yZ _⟩,?_⟩
   rintro v H' ⟨T,x,y,rfl,o,rfl,y1,k,z⟩;exact ps i T x y acc H c z p (y1 xs d) (k ys e) o
 . have ei:i=xs.length:=by omega
   subst ei;exact .inl ⟨⟨xs,ys,d,e,z4 _⟩,l acc H p⟩
theorem sX{K:PySem.W.Frag}{a b:Addr}{xs ys:List V}{g:TG}{tb:TS}{D:Ends}{σ:St}{H:Hp}(hl:xs.length<=ys.length)(Pv:Nat->St->Hp->Prop)(h0:Pv 0 σ H)(hq:∀i σ H,i<=xs.length->Pv i σ H->SqL K H a xs/\SqL K H b ys)(hs:∀i T x y σ H,xs[i]?=some x->ys[i]?=some y->i < sizeLine->Pv i σ H->H T=none->g (.ref T) σ (upd H T (.tup [x,y])) fun σ2 H2=>tb {D with nx:=Pv (i+1),ct:=Pv (i+1),bk:=D.nx} σ2 H2)(hd:∀σ H,Pv xs.length σ H->D.nx σ H):
 ∃W:Nat->Nat->St->Hp->Prop,(∃m,W 0 m σ H)/\∀i m σ H,W i m σ H->
  ((Itz .lst K a b).stop i H/\D.nx σ H)\/((Itz .lst K a b).go i H/\∃N:St->Hp->Prop,(∀σ' H',N σ' H'->∃m',m' < m/\W (i+1) m' σ' H')/\∀x H',(Itz .lst K a b).yld i H x H'->g x σ H' fun σ2 H2=>tb {D with nx:=N,ct:=N,bk:=D.nx} σ2 H2):=by
 refine⟨fun i m σ H=>m=xs.length - i/\i<=xs.length/\Pv i σ H,⟨xs.length,by simp,zr _,h0⟩,?_⟩
 rintro i m σ H ⟨rfl,hi,p⟩;obtain⟨d,e⟩:=hq i σ H hi p;by_cases c:i < xs.length
 . refine .inr ⟨⟨xs,ys,xs[i],ys[i]'(by omega),d,e,by simp[c],yZ _⟩,Pv (i+1),fun σ' H' f=>⟨xs.length - (i+1),by omega,rfl,c,f⟩,?_⟩
   rintro v H' ⟨T,x,y,rfl,j,rfl,y1,h,z⟩;exact hs i T x y σ H (y1 xs d) (h ys e) z p j
 . have ei:i=xs.length:=by omega
   subst ei;exact .inl ⟨⟨xs,ys,d,e,z4 _⟩,hd σ H p⟩
end L2
namespace Dj
open PySem PySem.Spec PyProof.Rows L2 Tre
noncomputable def CompJ(P:Program)(w:World)(K:PySem.W.Frag)(n i:Nat)(D:Addr)(acc:List Ent)(Pv:Nat->List Ent->Hp->Prop)(k:List Tk.KT)(b:Addr):VK:=fun v H7=>DJ P w K H7 D acc/\KeyAt K H7 k b/\acc.length < sizeLine/\∃m',m' < n - i/\(m'=n - (i+1)/\i+1<=n/\Pv (i+1) (putJ acc k b v) (upd H7 D (dJ P w D (putJ acc k b v))))
theorem CompJ.mk{P:Program}{w:World}{K:PySem.W.Frag}{n i:Nat}{D:Addr}{acc:List Ent}{Pv:Nat->List Ent->Hp->Prop}{k:List Tk.KT}{b:Addr}{v:V}{H7:Hp}(hi:i < n)(hl:acc.length < sizeLine)(h1:DJ P w K H7 D acc)(hk:KeyAt K H7 k b)(h2:Pv (i+1) (putJ acc k b v) (upd H7 D (dJ P w D (putJ acc k b v)))):CompJ P w K n i D acc Pv k b v H7:=
 ⟨h1,hk,hl,n - (i+1),by omega,rfl,hi,h2⟩
theorem comp_zipJ{P:Program}{w:World}{K K':PySem.W.Frag}{a b:Addr}{mp:List (Option Nat)}{ta:TA}{tk te:TE}{Q:VK}{σ rest:L2.St}{H1:Hp}{xs ys:List V}(e:subS mp σ=none::none::rest)(hl:xs.length<=ys.length)(ha:∀Q:List V->Hp->Prop,Q [.ref a, .ref b] H1->ta σ H1 Q)(h1:SqL K H1 a xs)(h2:SqL K H1 b ys)(h:∀D,H1 D=none->∃Pv:Nat->List Ent->Hp->Prop,Pv 0 [] (upd H1 D (dJ P w D []))/\(∀i acc H,Pv i acc H->SqL K H a xs/\SqL K H b ys)/\
  (∀i T x y acc H,i < xs.length->Pv i acc H->xs[i]?=some x->ys[i]?=some y->H T=none->tk (some x::some y::rest) (upd H T (.tup [x,y])) fun yk H6=>∃b' k,yk= .ref b'/\te (some x::some y::rest) H6 (CompJ P w K xs.length i D acc Pv k b'))/\∀acc H,Pv xs.length acc H->Q (.ref D) H):
 kU P w K mp (iZip .lst K ta) (gTup K' 2 (be (aJ 0) (be (aJ 1) gNil))) cY tk te σ H1 Q:=by
 unfold kU;rw[e];refine ha _ ⟨a,b,xs,ys,rfl,h1,h2,fun D o=>?_⟩;obtain⟨Pv,g,j,ps,n⟩:=h D o;refine⟨fun i m acc H=>m=xs.length - i/\i<=xs.length/\Pv i acc H,⟨xs.length,by simp,zr _,g⟩,?_⟩
 rintro i m acc H ⟨rfl,hi,p⟩;obtain⟨d,f⟩:=j i acc H p;by_cases c:i < xs.length
 . refine .inr ⟨⟨xs,ys,xs[i],ys[i]'(by omega),d,f,by simp[c],yZ _⟩,?_⟩
   rintro v H' ⟨T,x,y,rfl,q,rfl,y1,l,z⟩;exact⟨T,[x,y],rfl,SqT.of a8,rfl,x,[y],rfl,y,[],rfl,rfl,ext2,ps i T x y acc H c p (y1 xs d) (l ys f) q⟩
 . have ei:i=xs.length:=by omega
   subst ei;exact .inl ⟨⟨xs,ys,d,f,z4 _⟩,n acc H p⟩
end Dj
namespace L2
open PySem PySem.Spec PyProof.Rows
theorem oO{P:Program}{w:World}{K:PySem.W.Frag}{mg mb:Str->Option Value}{CX:CXT}{k:Nat}{fa a:Addr}{fd:FuncData}{x:Str}{sp:Sp}{s₁:Shared}{vs:List Value}{ns:List Int}(KX:K.In s₁.heap)(hns:s₁.heap.Ns mainGlobals mg)(hb:s₁.heap.Ns builtinsNs mb)(hbb:∀x:Str,x≠"__name__"->mb x=bootBuiltins x)(hlim:s₁.heap.NoLimit)(hg:s₁.gens= #[])(ha:s₁.heap.get? a=some {cls:= .type "list",data:= .seq vs.toArray})(hi:IntsAre vs ns)(hl:ns.length<=sizeLine)(hr:Room k callerA){T0 c0:Addr}(hT0:s₁.heap.get? T0=some (PySem.W.tabObj #[]))(kT0:K.lookup T0=none)(cT0:PySem.W.codeHdIn K c0 T0=true)(hbm:s₁.heap.BuiltinsAt mg T0)(F:∀base:Heap,K.In base->base.Ns mainGlobals mg->base.BuiltinsAt mg T0->FnOk P w K mg base CX k fa fd [x] sp)(hbind:∀(s:Shared) (u:Value),BindsTo s fd ⟨[u],[]⟩ [(x,u)])(hsp:∀H:Hp,H T0=some (.tbl #[])->SqL K H a (ns.map V.int)->sp [.ref a] H (fun v _=>v= .bl true) fun _ _ _=>False)(hCX:∀H e s',CX [] H s₁ (fun _ _ _=>False) e s'->False):
 codeAny (model P w) callerA (.call (.ref fa) ⟨[.ref a],[]⟩) (fun r s'=>r= .ok (.ret (.bool true))/\OldK s₁.heap s'.heap/\s'.os=s₁.os/\AllBare s'.gens) s₁:=by
 have rv:=iz hi;have aC:=hi.length
 have p:∀H:Hp,Only H->SqL K H a (ns.map V.int)->HOk P w H s₁.heap->(∀b,H b≠none->b=a)->(H a≠none->K.lookup a=none)->
  codeAny (model P w) callerA (.call (.ref fa) ⟨[.ref a],[]⟩) (fun r s'=>r= .ok (.ret (.bool true))/\OldK s₁.heap s'.heap/\s'.os=s₁.os/\AllBare s'.gens) s₁:=by
  intro H₁ hO a4 j ac hK
  have aT:a≠T0:=fun z=>by
   rw[<-z,ha]at hT0;cases hT0
  have af:H₁ T0=none:=by
   cases q:H₁ T0 with
   |none=>rfl
   |some u=>exact absurd (ac T0 (by rw[q];simp)).symm aT
  obtain⟨H,eH⟩:∃H,H=upd H₁ T0 (.tbl #[]):=⟨_,rfl⟩;have t:H T0=some (.tbl #[]):=by rw[eH];exact a8
  have i:∀b,b≠T0->H b=H₁ b:=fun b n=>by rw[eH];exact ag n
  have hA:∀b,H b≠none->b=a\/b=T0:=fun b n=>by
   by_cases z:b=T0
   . exact .inr z
   . exact .inl (ac b (by rw[<-i b z];exact n))
  have hS:SqL K H a (ns.map V.int):=by
   rcases a4 with(h|⟨o,h⟩)|h
   . exact .inl (.inl ((i a aT).trans h))
   . exact .inl (.inr ⟨o,(i a aT).trans h⟩)
   . exact .inr h
  have hok:HOk P w H s₁.heap:=fun b u e=>by
   by_cases hb:b=T0
   . subst hb;rw[t]at e;cases e;exact hT0
   . rw[i b hb]at e;exact(j b u e).stay (fun c v _ q=>q) (fun c q=>by rw[i c (fun z=>by rw[z,af]at q;cases q)];exact q) fun c xs q=>by rw[i c (fun z=>by rw[z,af]at q;cases q)];exact q
  have f:∀ {b:Addr} {o:Obj},s₁.heap.get? b=some o->H b=none->(hidT s₁.heap H).get? b=some o:=fun e n=>sU e n
  have a3:∀ {b:Addr} {o:Obj} {es:Array DictEntry} {ep:Nat},s₁.heap.get? b=some o->o.data= .dict es ep->H b=none:=fun{b o es ep} e d=>by
   cases q:H b with
   |none=>rfl
   |some u=>
    rcases hA b (by rw[q];simp)with e'|e'
    . subst e';rw[ha]at e;cases e;have d':Data.seq vs.toArray _=Data.dict es ep:=d;cases d'
    . subst e';rw[hT0]at e;cases e;cases d
  have g:∀ {b:Addr} {m:Str->Option Value},s₁.heap.Ns b m->(hidT s₁.heap H).Ns b m:=fun{b m} ⟨o,es,ep,e,d,r⟩=>⟨o,es,ep,f e (a3 e d),d,r⟩
  have y:K.In (hidT s₁.heap H):=fun b o e=>f (KX b o e) (by
   cases q:H b with
   |none=>rfl
   |some u=>
    rcases hA b (by rw[q];simp)with e'|e'
    . subst e';rw[hK (by rw[<-i b aT,q];simp)]at e;cases e
    . subst e'
      rw[kT0]at e;cases e)
  have hM:Mod K mg (hidT s₁.heap H):=⟨y,g hns,⟨mb,g hb,hbb⟩,let ⟨mc,h1,h2⟩:=hlim;⟨mc,g h1,h2⟩⟩
  have a1:(hidT s₁.heap H).BuiltinsAt mg T0:=by
   refine hZq fun q_ e_=>?_;obtain⟨bm,ob,b1,b2,b3,b4,b5,b6,b7,b8⟩:=hbm;subst e_;refine⟨bm,ob,b1,b2,b3,b4,f b5 ?_,b6,b7,b8⟩
   cases q:H bm with
   |none=>rfl
   |some u=>
    rcases hA bm (by rw[q];simp)with e'|e'
    . subst e';rw[ha]at b5;cases b5;cases b8
    . exact absurd e' b4
  have e0:Env0 P w K mg (hidT s₁.heap H) callerA [] s₁ H:=⟨rfl,hM,fun b o e=>⟨(mU e).1, .inl (mU e).2⟩,Nat.le_of_eq (oQ _ _),trivial,fun b hb=>absurd (show b∈([]:List Addr)from hb) (by simp),hok, .of_eq hg⟩
  refine codeAny_mono ((F _ y (g hns) a1).run callerA [] s₁ H ⟨[.ref a],[]⟩ [.ref a] [.ref a] _ _ hr e0 (hbind s₁ (.ref a)) (.cons rfl .nil) (hsp H t hS)) fun r s' h=>?_
  cases r with
  |error e=>exact(hCX H e s' h).elim
  |ok fl=>
   cases fl with
   |next=>exact False.elim h
   |brk=>exact False.elim h
   |cont=>exact False.elim h
   |ret u=>
    refine hZq fun q_ e_=>?_;obtain⟨v,H',os,bare,un,l,r',q⟩:=h;subst e_;have q':v= .bl true:=q;subst q';obtain rfl:u=Value.bool true:=r';have au:=((PySem.W.codeHd_of_K KX cT0).tab hT0).isCodeTable;obtain⟨more,hm⟩:=un.tbls T0 _ t;have a2:=l T0 _ hm
    suffices old:∀b o,b≠T0->s₁.heap.get? b=some o->s'.heap.get? b=some o by
     refine⟨rfl,⟨fun b o e=>?_,fun b o e=>?_⟩,os,bare⟩
     . by_cases hb:b=T0
       . subst hb;rw[hT0]at e;cases e;exact .inr (.inl ⟨au,rfl, #[],more,rfl,a2⟩)
       . exact .inl (old b o hb e)
     . by_cases hb:b=T0
       . subst hb;exact⟨_,a2⟩
       . exact⟨o,old b o hb e⟩
    intro b o hb e
    cases q:H b with
    |none=>exact un.keep b o e (.inl q) (by intro z;exact absurd (show b∈([]:List Addr)from z) (by simp)) (by simp)
    |some u=>
     rw[i b hb]at q;rcases hO b with z|⟨ob,xs,z⟩
     . rw[q]at z;cases z
     . have z2:=un.frzs b ob _ ((i b hb).trans z);obtain⟨e1,_⟩:=j b _ z;obtain⟨e2,_⟩:=l b _ z2;rw[e]at e1;cases e1;exact e2
 cases hk:K.lookup a with
 |some o=>
  have e:=KX a o hk;rw[ha]at e;cases e;refine p (fun _=>none) (fun _=> .inl rfl) (.inr ⟨_,vs.toArray,_,hk,rfl,rfl,rfl,by rw[z9,aC];exact hl,by simpa using rv⟩) (fun b u z=>by have z':(none:Option HO)=some u:=z;cases z') (fun b z=>absurd rfl z) fun z=>absurd rfl z
 |none=>
  refine p (fun b=>if b=a then some (.frz {cls:= .type "list",data:= .seq vs.toArray} (.lst (ns.map V.int)))else none) (fun b=>?_) (.inl (.inr ⟨{cls:= .type "list",data:= .seq vs.toArray},if_pos rfl⟩)) (fun b u z=>?_) (fun b z=>?_) fun _=>hk
  . by_cases hb:b=a
    . exact .inr ⟨_,_,if_pos hb⟩
    . exact .inl (if_neg hb)
  . by_cases hb:b=a
    . have z':=(if_pos hb).symm.trans z;cases z';subst hb;exact⟨ha,by rw[yY];exact hl,vs,_,rv,ha⟩
    . have z':=(if_neg hb).symm.trans z;cases z'
  . by_cases hb:b=a
    . exact hb
    . exact absurd (if_neg hb) z
theorem walk_ofT{l:PySem.W.OpenLaw}{n k:Nat}{q:Program}{loose:List Str}{XP:(Str->Option Value)->Heap->Prop}{YP:World->Heap->Prop}{d:DefRec}{K:Params->PySem.W.Frag}{CX:World->CXT}{sp:World->Addr->Sp}{T0:Addr}{x:Str}(hn:l.most=some n)(hn2:n<=sizeLine)(hdf:d.params.defaults= [])(hr:Room k callerA)(hY:∀(w:World) (h:Heap),YP w h->(K w.params).In h)(hYT:∀(w:World) (h:Heap),YP w h->h.get? T0=some (PySem.W.tabObj #[]))(F:∀(w:World) (mg:Str->Option Value) (fa:Addr) (h:Heap),(K w.params).In h->h.Ns mainGlobals mg->mg d.name=some (.ref fa)->
  ∃(c0:Addr),(K w.params).lookup T0=none/\PySem.W.codeHdIn (K w.params) c0 T0=true/\∃fd:FuncData,(∀(s:Shared) (u:Value),BindsTo s fd ⟨[u],[]⟩ [(x,u)])/\
   ∀base:Heap,(K w.params).In base->base.Ns mainGlobals mg->base.BuiltinsAt mg T0->FnOk l.prog w (K w.params) mg base (CX w) k fa fd [x] (sp w T0))(hsp:∀(w:World) (H:Hp) (a:Addr) (ns:List Int),ns.length<=n->H T0=some (.tbl #[])->SqL (K w.params) H a (ns.map V.int)->sp w T0 [.ref a] H (fun v _=>v= .bl true) fun _ _ _=>False)(hCX:∀(w:World) (H:Hp) (s:Shared) (e:Value) (s':Shared),CX w [] H s (fun _ _ _=>False) e s'->False):
 PySem.W.WalkO q loose XP YP l.row.toRowW d [] (fun f vs=>PySem.call f vs):=by
 refine Att.attach_call hn hdf fun w s₀ s₁ mg mb fa o pm cd af a vs ns G Y ho hd au p j i c hg=>?_;have KX:=hY w _ Y;obtain⟨c0,t,z,fd,hb,hF⟩:=F w mg fa _ KX G.T.g p;have m:=hYT w _ Y;obtain⟨bm,ob,b1,b2,b3,b4,b5,y⟩:=G.T.bmain
 have r:bm≠T0:=fun q=>by
  rw[q,m]at b3;cases b3;cases b4
 have ac:bm≠mainGlobals:=fun q=>by
  obtain⟨o,es,ep,e,hd,_⟩:=G.T.g;rw[q,e]at b3;cases b3;rw[hd]at y;cases y
 exact oO KX G.T.g G.T.b G.T.builtins G.T.nolimit hg j i (zh c hn2) hr m t z ⟨bm,ob,b1,b2,ac,r,b3,b4,b5,y⟩ hF hb (fun H hO hS=>hsp w H a ns c hO hS) fun H e s'=>hCX w H s₁ e s'
open PySem PySem.Spec PyProof.Rows
theorem p5(a u v:Value):argsOk "min" ⟨[a],[(Str.ofString "key",u),(Str.ofString "default",v)]⟩:=by unfold argsOk;kernel_rfl
theorem dh:(toString "min"++toString ".loop":String)= "min.loop":=by decide
section
variable{prog:Program}{w:World}{A:Around}{R:Result->Shared->Prop}{it S q:Addr}{fp wr:List Addr}{n:Nat}{P:Nat->Value->Prop}{St:Nat->Heap->Prop}{kw:List (Str×Value)}{s₀:Shared}{G:Heap->Prop}{kf:Nat->Int}
def Kp(wr:List Addr)(S:Addr)(h h':Heap):Prop:=∀b o,b∉wr->b≠S->h.get? b=some o->h'.get? b=some o
theorem Kp.trans{wr:List Addr}{S:Addr}{a b c:Heap}(x:Kp wr S a b)(y:Kp wr S b c):Kp wr S a c:=fun d o h1 h2 e=>y d o h1 h2 (x d o h1 h2 e)
theorem oI(W:Walks prog w A.in1 it fp wr n P St)(nS:S∉fp)(hG:∀h h',G h->Kp wr S h h'->G h')(turn:∀i v h tk,i < n->P i v->G h->wpAny (model prog w) A.in1 (call (.ref q) [v]) (fun x s''=>∃t h' tk',x=Value.int (kf i) t/\s''= {s₀ with heap:=h',toks:=tk'}/\∀b o,h.get? b=some o->h'.get? b=some o) (fun _ _=>False) {s₀ with heap:=h,toks:=tk}):
 ∀(k j i:Nat) (h:Heap) (tk:Nat) (vb:Value) (tb:Tok) (c:Nat),j+k=n->St j h->G h->
 h.get? S=some ({cls:= .type "list",data:= .seq #[vb,Value.int (kf i) tb] c}:Obj)->P i vb->i < n->(∀j',j' < j->kf i<=kf j')->
 (∀(i:Nat) (v:Value) (h':Heap) (tk:Nat),i < n->P i v->(∀j,j < n->kf i<=kf j)->Kp wr S h h'->R (.ok (.ret v)) {s₀ with heap:=h',toks:=tk})->
 codeAny (model prog w) A (.builtin "min.loop" ⟨[.ref it, .ref q, .ref S],kw⟩) R {s₀ with heap:=h,toks:=tk}:=by
 have nw:S∉wr:=fun z=>nS (W.sub _ z);intro k
 induction k with
 |zero=>
  intro j i h tk vb tb c e st hg s pb hi hb hR;have e':j=n:=by omega
  subst e';refine codeAny_builtin PySem.F.entry_min_loop ?_;rw[Around.under_plainId PySem.F.plain_min_loop _];show wpAny _ A.in1 (seqItems? (.ref S) >>=fun _=>_) _ _ _;refine wpAny_bind (wpAny_seqItems s rfl ?_);show wpAny _ A.in1 (tryCatch (pyNext (.ref it)) _ >>=fun _=>_) _ _ _;refine wpAny_bind (wpAny_tryCatch (W.done _ _ _ st fun h1 l k1=>?_));have m:=k1 S _ nw s;show wpAny _ A.in1 (updateSeq S (fun _=> #[]) >>=fun _=>_) _ _ _;refine wpAny_bind (wpAny_updateSeq m rfl (wpAny_bind (wpAny_letGo (wpAny_pure ?_))));exact hR i vb _ l hi pb hb fun b o nb a p=>(Heap.get?_update_other _ _ (Ne.symm a)).trans (k1 b o nb p)
 |succ k ih=>
  intro j i h tk vb tb c e st hg s pb hi hb hR;refine codeAny_builtin PySem.F.entry_min_loop ?_;rw[Around.under_plainId PySem.F.plain_min_loop _];show wpAny _ A.in1 (seqItems? (.ref S) >>=fun _=>_) _ _ _;refine wpAny_bind (wpAny_seqItems s rfl ?_);show wpAny _ A.in1 (tryCatch (pyNext (.ref it)) _ >>=fun _=>_) _ _ _;refine wpAny_bind (wpAny_tryCatch (W.item j _ _ _ (by omega) st fun v h1 l pv af k1=>?_))
  have m:=k1 S _ nw s;have u:Kp wr S h h1:=fun b o nb _ p=>k1 b o nb p;show wpAny _ A.in1 (tryCatch (holding [v] (call (.ref q) [v])) _ >>=_) _ _ _;refine wpAny_bind (wpAny_tryCatch (wpAny_holding (wpAny_mono (turn j v h1 l (by omega) pv (hG _ _ hg u)) (fun x s'' he=>?_) fun _ _ hF=>hF.elim)))
  obtain⟨t2,h2,au,rfl,rfl,k2⟩:=he;have g:Kp wr S h h2:=fun b o nb nS p=>k2 b o (u b o nb nS p);have ac:St (j+1) h2:=W.frame _ _ _ af fun b hb o eo=>k2 b o eo;have f:=k2 _ _ m;show wpAny _ A.in1 (tryCatch (holding [v, .int (kf j) t2] (richCompare .Lt (.int (kf j) t2) (.int (kf i) tb) >>=_)) _ >>=_) _ _ _;refine wpAny_bind (wpAny_tryCatch (wpAny_holding (wpAny_bind (CmpOf.ints_lt (prog:=prog) (w:=w) (A:=A.in1) (P:=fun i v=>∃t,v= .int (kf i) t) kf (fun i v h=>h) j i _ _ _ _ _ ⟨t2,rfl⟩ ⟨tb,rfl⟩ ?_))));refine wpAny_bind (wpAny_holding (wpAny_truthy_bool ?_));refine wpAny_bind (wpAny_letGo (wpAny_pure ?_));by_cases y:kf j < kf i
  . simp only[y,decide_true,if_true];refine wpAny_bind (wpAny_updateSeq f rfl (wpAny_bind (wpAny_letGo ?_)));rw[dh];have r:Kp wr S h (h2.update S (Obj.mapSeq fun _=> #[v, .int (kf j) t2])):=fun b o nb a p=>(Heap.get?_update_other _ _ (Ne.symm a)).trans (g b o nb a p);refine wpAny_pure ⟨plainId_quiet PySem.F.plain_min_loop _,ih (j+1) j _ _ v t2 _ (by omega) (W.frame _ _ _ ac fun b hb o eo=>(Heap.get?_update_other _ _ (fun z:S=b=>nS (by rw[z];exact hb))).trans eo) (hG _ _ hg r) (Heap.get?_update_self _ f rfl) pv (by omega) (fun j' hj=>?_) fun i' v' h3 d a1 a2 a3 a4=>hR i' v' h3 d a1 a2 a3 (r.trans a4)⟩
    by_cases z:j'=j
    . rw[z];exact Int.le_refl _
    . have:=hb j' (by omega);omega
  . simp only[y,decide_false,Ag,if_false];refine wpAny_bind (wpAny_letGo ?_);rw[dh];refine wpAny_pure ⟨plainId_quiet PySem.F.plain_min_loop _,ih (j+1) i _ _ vb tb c (by omega) ac (hG _ _ hg g) f pb hi (fun j' hj=>?_) fun i' v' h3 d a1 a2 a3 a4=>hR i' v' h3 d a1 a2 a3 (g.trans a4)⟩
    by_cases z:j'=j
    . rw[z];omega
    . exact hb j' (by omega)
theorem lG(W:Walks prog w A.in1 it fp wr n P St)(nS:S∉fp)(hG:∀h h',G h->Kp wr S h h'->G h')(turn:∀i v h tk,i < n->P i v->G h->wpAny (model prog w) A.in1 (call (.ref q) [v]) (fun x s''=>∃t h' tk',x=Value.int (kf i) t/\s''= {s₀ with heap:=h',toks:=tk'}/\∀b o,h.get? b=some o->h'.get? b=some o) (fun _ _=>False) {s₀ with heap:=h,toks:=tk})(d:Value){h:Heap}{tk:Nat}{c:Nat}(st:St 0 h)(hg:G h)(gS:h.get? S=some ({cls:= .type "list",data:= .seq #[] c}:Obj))(h0:n=0->∀(h':Heap) (tk:Nat),Kp wr S h h'->R (.ok (.ret d)) {s₀ with heap:=h',toks:=tk})(hR:∀(i:Nat) (v:Value) (h':Heap) (tk:Nat),i < n->P i v->(∀j,j < n->kf i<=kf j)->Kp wr S h h'->R (.ok (.ret v)) {s₀ with heap:=h',toks:=tk}):
 codeAny (model prog w) A (.builtin "min.loop" ⟨[.ref it, .ref q, .ref S],[(Str.ofString "default",d)]⟩) R {s₀ with heap:=h,toks:=tk}:=by
 have nw:S∉wr:=fun z=>nS (W.sub _ z);refine codeAny_builtin PySem.F.entry_min_loop ?_;rw[Around.under_plainId PySem.F.plain_min_loop _];show wpAny _ A.in1 (seqItems? (.ref S) >>=fun _=>_) _ _ _;refine wpAny_bind (wpAny_seqItems gS rfl ?_);show wpAny _ A.in1 (tryCatch (pyNext (.ref it)) _ >>=fun _=>_) _ _ _;by_cases z:n=0
 . refine wpAny_bind (wpAny_tryCatch (W.done _ _ _ (by rw[z];exact st) fun h1 a k1=>?_))
   refine wpAny_bind (wpAny_rule (wpAny_pure ?_));exact h0 z _ a fun b o nb _ e=>k1 b o nb e
 . refine wpAny_bind (wpAny_tryCatch (W.item 0 _ _ _ (by omega) st fun v h1 a pv s k1=>?_))
   have y:=k1 S _ nw gS;have k:Kp wr S h h1:=fun b o nb _ e=>k1 b o nb e;show wpAny _ A.in1 (tryCatch (holding [v] (call (.ref q) [v])) _ >>=_) _ _ _;refine wpAny_bind (wpAny_tryCatch (wpAny_holding (wpAny_mono (turn 0 v h1 a (by omega) pv (hG _ _ hg k)) (fun x s'' he=>?_) fun _ _ hF=>hF.elim)))
   obtain⟨t2,h2,ac,rfl,rfl,k2⟩:=he;have r:Kp wr S h h2:=fun b o nb nS e=>k2 b o (k b o nb nS e);have u:St 1 h2:=W.frame _ _ _ s fun b hb o p=>k2 b o p;have g:=k2 _ _ y;show wpAny _ A.in1 (updateSeq S (fun _=> #[v, .int (kf 0) t2]) >>=_) _ _ _;refine wpAny_bind (wpAny_updateSeq g rfl ?_);rw[dh];have f:Kp wr S h (h2.update S (Obj.mapSeq fun _=> #[v, .int (kf 0) t2])):=fun b o nb l e=>(Heap.get?_update_other _ _ (Ne.symm l)).trans (r b o nb l e);refine wpAny_pure ⟨plainId_quiet PySem.F.plain_min_loop _,oI W nS hG turn (n - 1) 1 0 _ _ v t2 _ (by omega) (W.frame _ _ _ u fun b hb o p=>(Heap.get?_update_other _ _ (fun z:S=b=>nS (by rw[z];exact hb))).trans p) (hG _ _ hg f) (Heap.get?_update_self _ g rfl) pv (by omega) (fun j' hj=>?_) fun i' v' h3 m a1 a2 a3 a4=>hR i' v' h3 m a1 a2 a3 (f.trans a4)⟩
   rw[show j'=0 by omega]
   exact Int.le_refl _
end
open PySem PySem.Spec PyProof.Rows
def CdX(c:Addr)(q:Str):HO:= .ext fun h=>h.CodeRec (.ref c) q
theorem xR{P:Program}{w:World}{H:Hp}{h:Heap}{c:Addr}{q:Str}(x:h.CodeRec (.ref c) q):ObjOk P w H h c (CdX c q):=by
 refine⟨x,?_,fun h1 h2 y k=>?_⟩
 . obtain⟨a,o,vs,t,e,ho,_⟩:=x;cases e;exact⟨o,ho⟩
 . obtain⟨a,o,vs,t,e,ho,z⟩:=y;cases e;exact⟨c,o,vs,t,rfl,k o ho,z⟩
def Lam(T0:Addr)(pos:Pos)(q:Str)(H:Hp):Prop:=H T0=some (.tbl #[])\/∃c,H T0=some (.tbl #[rawInt pos.line,rawInt pos.col, .ref c])/\H c=some (CdX c q)
theorem Lam.tb{T0:Addr}{pos:Pos}{q:Str}{H:Hp}(h:Lam T0 pos q H):∃ps,H T0=some (.tbl ps):=by
 rcases h with h|⟨c,h,_⟩
 . exact⟨_,h⟩
 . exact⟨_,h⟩
def ButT(T0:Addr)(H H':Hp):Prop:=∀b o,b≠T0->H b=some o->H' b=some o
section
variable{X:Cx}{pins:List (Addr×Obj)}{σ:St}{H:Hp}{s:Shared}{T0 c0:Addr}{params:Arguments}{body:Expr}{scope:Scope}{pos:Pos}{clos:List (Str×Addr)}{Q:Value->Shared->Prop}{E:Value->Shared->Prop}{q:Str}
theorem Inv.pinF{f:Addr}{o:Obj}(I:Inv X pins σ H s)(hf:s.heap.get? f=some o)(hn:H f=none)(hL:f≠X.env.locals)(hs:f∉X.fs)(hd:∀v,o.data≠ .cell v):Inv X ((f,o)::pins) σ H s:=by
 refine{I with pin:=fun p hp=>?_};rcases zv.mp hp with hp|hp
 . exact I.pin p (AE _ hp)
 . rcases zc.mp hp with rfl|hp
   . exact⟨hf,hn,hL,hs,hd⟩
   . exact I.pin p (zm _ hp)
theorem Inv.unpin{p:Addr×Obj}(I:Inv X (p::pins) σ H s):Inv X pins σ H s:=by
 refine{I with pin:=fun p hp=>?_};rcases zv.mp hp with hp|hp
 . exact I.pin p (AE _ hp)
 . exact I.pin p (zm _ (z5 _ hp))
theorem sK(I:Inv X pins σ H s)(hcode:X.env.code= .ref c0)(C:PySem.W.codeHdIn X.K c0 T0=true)(hB:X.base.BuiltinsAt X.mg T0)(hdef:defaultsOf params X.env=([],[]))(hcl:closureFor scope X.env=pure clos)(hL:Lam T0 pos (X.env.qual++"<lambda>") H)(h:∀f c' ctv H' s',Inv X ((f,PySem.W.kla_obj "<lambda>" (X.env.qual++"<lambda>") params body scope clos ((X.mg "__name__").getD .none) c' ctv)::pins) σ H' s'->ButT T0 H H'->Lam T0 pos (X.env.qual++"<lambda>") H'->s'.heap.CodeRec (.ref c') (X.env.qual++"<lambda>")->Q (.ref f) s'):
 wpAny (model X.prog X.w) X.A (eval (.Lambda params body scope pos) X.env) Q E s:=by
 refine PySem.W.kla_eval hdef ?_;have hg:s.heap.Ns mainGlobals X.mg:=I.mod.glob.keeps I.bk;have Ch:PySem.W.CodeHd s.heap c0 T0:=PySem.W.codeHd_of_K I.kIn C
 have hb:s.heap.BuiltinsAt X.mg T0:=by
  refine hZq fun q_ e_=>?_;obtain⟨bm,ob,b1,b2,b3,b4,b5,b6⟩:=hB;subst e_;exact⟨bm,ob,b1,b2,b3,b4,I.bk _ _ b5,b6⟩
 refine hZq fun q_ e_=>?_;obtain⟨m,⟨oL,_,_,a4,_⟩,_⟩:=id I.loc;subst e_;have lL:=Heap.lt_size a4
 have aC:∀b∈X.fs,b < s.heap.objs.size:=fun b a2=>by
  refine hZq fun q_ e_=>?_;obtain⟨o,ho,_⟩:=(I.ok.funs.mem a2).2;obtain⟨o',a5⟩:=I.base.there b o ho (fun z=>I.ok.exfs b z a2);subst e_;exact Heap.lt_size a5
 rcases hL with hL|⟨c,hL,hc⟩
 . have hP:s.heap.get? T0=some (PySem.W.tabObj #[]):=I.hok T0 _ hL
   have a6:mainGlobals≠T0:=fun e=>by
    refine hZq fun q_ e_=>?_;obtain⟨o,es,ep,e1,hd,_⟩:=hg;subst e_;rw[e,hP]at e1;cases e1;cases hd
   refine PySem.W.kla_makeFunction (mg:=X.mg) hcl I.ok.glob hg hcode Ch hP trivial rfl a6 hb fun c' ctv h' tk hx au a1 g a3=>?_;have x:H c'=none:=I.hok.fresh au;have cT:c'≠T0:=fun e=>by rw[e,hL]at x;cases x
   have p:∀b o,b≠T0->s.heap.get? b=some o->(h'.push (PySem.W.kla_obj "<lambda>" (X.env.qual++"<lambda>") params body scope clos ((X.mg "__name__").getD .none) c' ctv)).get? b=some o:=fun b o n e=>Heap.get?_push_of_some _ (hx b o n e);have l:=Heap.get?_push_of_some (PySem.W.kla_obj "<lambda>" (X.env.qual++"<lambda>") params body scope clos ((X.mg "__name__").getD .none) c' ctv) a3
   have d:(h'.push (PySem.W.kla_obj "<lambda>" (X.env.qual++"<lambda>") params body scope clos ((X.mg "__name__").getD .none) c' ctv)).CodeRec (.ref c') (X.env.qual++"<lambda>"):=by
    refine hZq fun q_ e_=>?_;obtain⟨c2,o,vs,t,e,ho,z⟩:=g;subst e_;exact⟨c2,o,vs,t,e,Heap.get?_push_of_some _ ho,z⟩
   have hf:=Heap.get?_push_size h' (o:=PySem.W.kla_obj "<lambda>" (X.env.qual++"<lambda>") params body scope clos ((X.mg "__name__").getD .none) c' ctv) rfl;generalize a7:h'.push (PySem.W.kla_obj "<lambda>" (X.env.qual++"<lambda>") params body scope clos ((X.mg "__name__").getD .none) c' ctv)=h2 at*
   have tb:∀b o,H b=some o->(∀ps,o≠ .tbl ps)->b≠T0:=fun b o e n z=>by
    rw[z,hL]at e;exact n _ (ze e).symm
   have k:∀b,b≠T0->b≠c'->(upd (upd H T0 (.tbl #[rawInt pos.line,rawInt pos.col, .ref c'])) c' (CdX c' (X.env.qual++"<lambda>"))) b=H b:=fun b n1 n2=>by rw[ag n2,ag n1]
   have nc:∀b o,s.heap.get? b=some o->b≠c':=fun b o e z=>by
    have:=Heap.lt_size e;rw[z]at this;exact absurd this (Nat.not_lt.mpr au)
   have a:∀b o,H b=some o->b≠c':=fun b o e z=>by rw[z,x]at e;cases e
   have af:(upd (upd H T0 (.tbl #[rawInt pos.line,rawInt pos.col, .ref c'])) c' (CdX c' (X.env.qual++"<lambda>"))) T0=some (.tbl #[rawInt pos.line,rawInt pos.col, .ref c']):=by rw[ag (Ne.symm cT),a8]
   have aT:HOk X.prog X.w (upd (upd H T0 (.tbl #[rawInt pos.line,rawInt pos.col, .ref c'])) c' (CdX c' (X.env.qual++"<lambda>"))) h2:=fun b u e=>by
    by_cases b1:b=c'
    . subst b1;rw[a8]at e;cases e;exact xR d
    . by_cases b2:b=T0
      . subst b2;rw[af]at e;cases e;show h2.get? _=some _;rw[l];rfl
      . rw[k b b2 b1]at e;refine(I.hok b u e).stay (fun c v z q=>p c v ?_ q) (fun c q=>?_) fun c xs q=>?_
        . rcases z with rfl|z
          . exact b2
          . exact tb _ _ z (by intro ps y;cases y)
        . rw[k c (tb _ _ q (by intro ps y;cases y)) (a _ _ q)]
          exact q
        . rw[k c (tb _ _ q (by intro ps y;cases y)) (a _ _ q)]
          exact q
   have ac:∀b,Idl (H b)->b≠T0:=fun b i z=>by
    rw[z,hL]at i;rcases i with i|⟨xs,i⟩<;>cases i
   have I2:=I.step (h':=h2) (H':=upd (upd H T0 (.tbl #[rawInt pos.line,rawInt pos.col, .ref c'])) c' (CdX c' (X.env.qual++"<lambda>"))) (g':=s.gens) (d':=s.drawn) (t':=tk) (ch:= []) (fun _ z=>nomatch z) (fun b o _ _ _ e n=>p b o (ac b n) e)
    (fun b o _ _ _ e n=>⟨o.slots,p b o (ac b (.inl n)) e⟩) (fun b o _ e n=>by rw[k b (ac b (.inl n)) (nc b o e)];exact n)
    (fun b o _ e=>by
     by_cases z:b=T0
     . exact⟨_,z▸l⟩
     . exact⟨o,p b o z e⟩)
    (fun b xs e=>by rw[k b (tb _ _ e (by intro ps y;cases y)) (a _ _ e)];exact e) (fun b o u e=>by rw[k b (tb _ _ e (by intro ps y;cases y)) (a _ _ e)];exact e)
    (fun b ps e=>by
     by_cases z:b=T0
     . subst z;rw[hL]at e;cases e;exact⟨#[rawInt pos.line,rawInt pos.col, .ref c'],by rw[af];rfl⟩
     . exact⟨#[],by rw[k b z (a _ _ e),e];simp⟩)
    (fun m' ⟨o,es,ep,e,r⟩=>⟨o,es,ep,p _ o (fun z=>by have:=I.free;rw[z,hL]at this;cases this) e,r⟩) aT I.bare
   have j:s.heap.objs.size<=h'.objs.size:=by omega
   refine h h'.objs.size c' ctv _ _ (I2.pinF hf ?_ ?_ ?_ (by intro v z;cases z)) (fun b o n e=>by rw[k b n (a _ _ e)];exact e) (.inr ⟨c',af,a8⟩) d
   . rw[k _ (fun z=>by have:=Heap.lt_size hP;rw[<-z]at this;exact absurd this (Nat.not_lt.mpr j)) (fun z=>by rw[<-z]at a1;exact absurd a1 (AH _))]
     exact I.hok.fresh j
   . exact fun z=>by rw[<-z]at lL;exact absurd lL (Nat.not_lt.mpr j)
   . exact fun z=>absurd (aC _ z) (Nat.not_lt.mpr j)
 . have hP:s.heap.get? T0=some (PySem.W.tabObj #[rawInt pos.line,rawInt pos.col, .ref c]):=I.hok T0 _ hL;have g:s.heap.CodeRec (.ref c) (X.env.qual++"<lambda>"):=(I.hok c _ hc).1;refine PySem.W.kla_makeFunctionHit (mg:=X.mg) (cv:= .ref c) hcl I.ok.glob hg hcode Ch hP trivial (by simp[codeAmong,rawInt]) hb fun ctv h' tk hk hsz=>?_
   have p:∀b o,s.heap.get? b=some o->(h'.push (PySem.W.kla_obj "<lambda>" (X.env.qual++"<lambda>") params body scope clos ((X.mg "__name__").getD .none) c ctv)).get? b=some o:=fun b o e=>Heap.get?_push_of_some _ (hk b o e);have hf:=Heap.get?_push_size h' (o:=PySem.W.kla_obj "<lambda>" (X.env.qual++"<lambda>") params body scope clos ((X.mg "__name__").getD .none) c ctv) rfl;refine h h'.objs.size c ctv H _ ((I.kept (t':=tk) p).pinF hf (I.hok.fresh hsz) ?_ ?_ (by intro v z;cases z)) (fun b o _ e=>e) (.inr ⟨c,hL,hc⟩) ?_
   . exact fun z=>by rw[<-z]at lL;exact absurd lL (Nat.not_lt.mpr hsz)
   . exact fun z=>absurd (aC _ z) (Nat.not_lt.mpr hsz)
   . refine hZq fun q_ e_=>?_;obtain⟨c2,o,vs,t,e,ho,z⟩:=g;subst e_;exact⟨c2,o,vs,t,e,p _ _ ho,z⟩
end
open PySem PySem.Spec PyProof.Rows
noncomputable abbrev lmSc:Scope:= {kind:= .function,names:= [(Str.ofString "place", .local),(Str.ofString "numbers", .free)],isGenerator:=false,isCoroutine:=false,more:= []}
abbrev lmAr(p:Pos):Arguments:= {posonlyargs:= [],args:= [{arg:="place",annotation:=none,pos:=p}],vararg:=none,kwonlyargs:= [],kw_defaults:= [],kwarg:=none,defaults:= []}
abbrev lmBd(p1 p2 p3:Pos):Expr:= .Subscript (.Name "numbers" p1) (.Name "place" p2) p3
theorem uP{env:Env}{c:Addr}(h:env.cells.lookup (Str.ofString "numbers")=some c):closureFor lmSc env=pure [(Str.ofString "numbers",c)]:=by
 have e:cellOf env (Str.ofString "numbers")=pure c:=by unfold cellOf;rw[h]
 unfold closureFor;simp only[List.forIn_cons,List.forIn_nil,pure_bind,bind_pure_comp];simp[e]
theorem sL{prog:Program}{w:World}{A:Around}{s:Shared}{f a c c':Addr}{q:Str}{p0 p1 p2 p3:Pos}{pm ctv:Value}{its:Array Value}{i k:Int}{t u:Tok}(hroom:A.depth < recursionLimit)(ho:s.heap.get? f=some (PySem.W.kla_obj "<lambda>" q (lmAr p0) (lmBd p1 p2 p3) lmSc [(Str.ofString "numbers",c)] pm c' ctv))(hrec:s.heap.CodeRec (.ref c') q)(hlim:s.heap.NoLimit)(hcell:s.heap.IsCell c (some (.ref a)))(hl:s.heap.IsList a its)(h0:0<=i)(hfit:i < 2^63)(hx:its[i.toNat]?=some (.int k u)):
 wpAny (model prog w) A (call (.ref f) [.int i t]) (fun x s''=>∃t h' tk',x=Value.int k t/\s''= {s with heap:=h',toks:=tk'}/\∀b o,s.heap.get? b=some o->h'.get? b=some o) (fun _ _=>False) s:=by
 refine wpAny_call (PySem.W.kla_callFunE hroom ho rfl rfl rfl rfl hrec ?_);rw[show bindArgs (PySem.W.kla_fn "<lambda>" q (lmAr p0) (lmBd p1 p2 p3) lmSc [(Str.ofString "numbers",c)] pm (.ref c') ctv) ⟨[.int i t],[]⟩=pure [(Str.ofString "place", .int i t)]from rfl]
 refine wpAny_pure (wpAny_newFunctionEnv (scope:=lmSc) (by decide +kernel) (by
  intro x m;rw[zw.mp m];show List.lookup (Str.ofString "place") lmSc.names=_
  decide +kernel) (fun h j g=>⟨hlim.fresh _ g,PySem.W.kla_codeExpr ?_⟩) rfl)
 have d:∀b o,s.heap.get? b=some o->h.get? b=some o:=fun b o e=>g.extBut b o (zp (Heap.lt_size e)) (Heap.get?_push_of_some _ e);refine Subscript_ (wpAny_Name (wpAny_loadName_free rfl (show List.lookup (Str.ofString "numbers") lmSc.names=some .free by decide +kernel) (c:=c) (v:= .ref a) ?_ (hcell.keeps d) ?_ (by decide +kernel)) (by decide +kernel))
 . show List.lookup (Str.ofString "numbers") [(Str.ofString "numbers",c)]=some c;simp
 refine wpAny_Name (wpAny_loadName_local rfl (show List.lookup (Str.ofString "place") lmSc.names=some .local by decide +kernel) j (v:= .int i t) ?_ ?_) (by decide +kernel)
 . show List.lookup (Str.ofString "place") [(Str.ofString "place",Value.int i t)]=_;simp
 obtain⟨n,l,hr⟩:=hl;refine item_listR (s:= {s with heap:=h,toks:=_}) (items:=its) ⟨n,d _ _ l,hr⟩ h0 hfit hx ?_;exact⟨u,h,_,rfl,rfl,d⟩
theorem SqL.butT{K:PySem.W.Frag}{H H':Hp}{T0 a:Addr}{xs:List V}{ps:Array Value}(hT:H T0=some (.tbl ps))(b:ButT T0 H H')(h:SqL K H a xs):SqL K H' a xs:=by
 rcases h with(h|⟨o,h⟩)|h
 . exact .inl (.inl (b _ _ (fun z=>by rw[z,hT]at h;cases h) h))
 . exact .inl (.inr ⟨o,b _ _ (fun z=>by rw[z,hT]at h;cases h) h⟩)
 . exact .inr h
def nv(ps:List Nat):List V:=ps.map fun(p:Nat)=>V.int (p:Int)
def vX(K:PySem.W.Frag)(T0:Addr)(pos:Pos)(q:Str):TE:=fun σ H Q=>∃(a b:Addr) (ns:List Int) (ps:List Nat),σ[0]?=some (some (.ref a))/\σ[1]?=some (some (.ref b))/\SqL K H a (ns.map V.int)/\SqL K H b (nv ps)/\(∀p∈ps,p < ns.length)/\Lam T0 pos q H/\
 (ps= []->∀H',ButT T0 H H'->Lam T0 pos q H'->Q .non H')/\∀p∈ps,(∀r∈ps,ns.getD p 0<=ns.getD r 0)->∀H',ButT T0 H H'->Lam T0 pos q H'->Q (.int (p:Int)) H'
theorem rH{X:Cx}{T0 c0:Addr}{p p' p0 p1 p2 p3 p4 pos kp kp2 cpos:Pos}{k:Nat}(hc:X.calm=true)(hr:Room k X.A)(hN:X.N= [Str.ofString "numbers",Str.ofString "places"])(hn:X.env.scope.names.lookup (Str.ofString "numbers")=some .cell)(hpl:Vis X.env.scope (Str.ofString "places"))(hcode:X.env.code= .ref c0)(C:PySem.W.codeHdIn X.K c0 T0=true)(hB:X.base.BuiltinsAt X.mg T0)(hg:Gl X (Str.ofString "min"))(hm:X.mg (Str.ofString "min")=none):
 PE X (.Call (.Name "min" p) [.Name "places" p'] [⟨some (Str.ofString "key"), .Lambda (lmAr p0) (lmBd p1 p2 p3) lmSc pos,kp⟩,⟨some (Str.ofString "default"), .Constant .none 0 p4,kp2⟩] cpos) (vX X.K T0 pos (X.env.qual++"<lambda>")):=by
 intro pins s σ H Q I h;refine hZq fun q_ e_=>?_;obtain⟨a,b,ns,ps,e0,e1,ha,hb,bT,hL,aT,aC⟩:=h;subst e_;refine wpAny_Call_Name_kw (eh I hg hm boot_min ?_ (by decide) (by decide))
 refine PyProof.Rows.callWith_kw (thn ((a0 (rG (i:=1) (by rw[hN];rfl) hpl) aa) cpos pins s σ H (fun vs H1=>vs= [.ref b]/\H1=H) I ⟨_,e1,rfl,rfl⟩) fun us s1 ⟨vs,H1,I1,r1,q1⟩=>?_)
 refine hZq fun q_ e_=>?_;obtain⟨rfl,rfl⟩:=q1;obtain⟨u,rfl,ru⟩:=cG r1;subst e_;cases ru;obtain⟨bY,hT⟩:=hL.tb;show wpAny _ _ (evalAll ((do let v<-eval (.Lambda (lmAr p0) (lmBd p1 p2 p3) lmSc pos) X.env;standAt cpos;pure v)::(do let v<-eval (.Constant .none 0 p4) X.env;standAt cpos;pure v):: [])) _ _ s1
 have lk:=I1.loc;refine hZq fun q_ e_=>?_;obtain⟨m,b7,bF⟩:=lk;obtain⟨u,ru,l⟩:=bF 0 (Str.ofString "numbers") (.ref a) (by rw[hN];rfl) e0 (.inr (.inl hn))
 subst e_;cases ru
 obtain⟨c,a2,bC⟩:∃c,X.env.cells.lookup (Str.ofString "numbers")=some c/\s1.heap.IsCell c (some (.ref a)):=by
  rcases l with⟨l,_⟩|⟨_,l⟩
  . have:X.env.scope.names.lookup (Str.ofString "numbers")=some .local:=l;rw[hn]at this;cases this
  . exact l
 refine wpAny_evalAll_cons (wpAny_bind (sK I1 hcode C hB rfl (uP a2) hL fun f c' b6 H2 d I2 bt a7 bb=>wpAny_bind (wpAny_standAt (wpAny_pure ?_))));refine wpAny_evalAll_cons (wpAny_bind (Constant_none (wpAny_bind (wpAny_standAt (wpAny_pure (wpAny_evalAll_nil ?_))))));show wpAny _ X.A (call (.builtin "min") [.ref b] [(Str.ofString "key", .ref f),(Str.ofString "default", .none)]) _ _ d;have bB:=SqL.butT hT bt hb;have bR:=SqL.butT hT bt ha;refine hZq fun q_ e_=>?_;obtain⟨its,rv,pl,_⟩:=I2.list bB;obtain⟨a4,bI,bg,bx⟩:=I2.list bR;subst e_;have au:=rv.length;unfold nv at au;rw[yY]at au;have a6:b < d.heap.objs.size:=by obtain⟨_,e,_⟩:=pl.isList;exact Heap.lt_size e
 have bj:=(I2.pin _ (zm _ z6)).1
 have af:d.heap.IsCell c (some (.ref a)):=by
  refine hZq fun q_ e_=>?_;obtain⟨m2,_,a3⟩:=I2.loc;obtain⟨u,ru,l⟩:=a3 0 (Str.ofString "numbers") (.ref a) (by rw[hN];rfl) e0 (.inr (.inl hn))
  subst e_;cases ru;rcases l with⟨l,_⟩|⟨_,c2,l1,l2⟩
  . have:X.env.scope.names.lookup (Str.ofString "numbers")=some .local:=l;rw[hn]at this;cases this
  . rw[a2]at l1;cases l1;exact l2
 refine PyProof.Rows.kmk_tree PySem.F.kind_min PySem.F.plain_min PySem.F.entry_min (p5 _ _ _) ?_;show wpAny _ X.A.in1 (Builtin.Builtins.bindParams "min" ["key","default"] 0 ⟨[],[(Str.ofString "key", .ref f),(Str.ofString "default", .none)]⟩ >>=fun _=>_) _ _ d;refine wpAny_bind (wpAny_of_eq (show Builtin.Builtins.bindParams "min" ["key","default"] 0 ⟨[],[(Str.ofString "key", .ref f),(Str.ofString "default", .none)]⟩=pure [some (.ref f),some .none]from rfl) ?_);refine wpAny_bind (wpAny_pure (wpAny_bind (wpAny_pyIter_list pl.isList (wpAny_bind (wpAny_newObj_type ?_ (zr _))))));rw[dh];have ac:∀o:Obj,(d.heap.push o).objs.size=d.heap.objs.size+1:=fun o=>Heap.size_push ..
 have a5:∀ {h':Heap},Kp [d.heap.objs.size] (d.heap.push {cls:= .type "list_iterator",data:= .fields #[.ref b, .int 0 0]}).objs.size ((d.heap.push {cls:= .type "list_iterator",data:= .fields #[.ref b, .int 0 0]}).push {cls:= .type "list",data:= .seq ([]:List Value).toArray}) h'->∀b o,d.heap.get? b=some o->h'.get? b=some o:=fun hk b x ex=>hk b x (fun hm=>by
  rw[zw.mp hm]at ex;exact AH _ (Heap.lt_size ex)) (fun e=>by
  have l:=Heap.lt_size ex;rw[e]at l
  exact absurd l (by rw[ac];exact Nat.not_lt.mpr (Nat.le_succ _))) (Heap.get?_push_of_some _ (Heap.get?_push_of_some _ ex))
 have fin:∀ {x:V} {v:Value} {h':Heap} {tk:Nat},(∀b o,d.heap.get? b=some o->h'.get? b=some o)->RelV x v->Q x H2->EP X pins σ Q v {d with heap:=h',toks:=tk}:=fun hk r q=>⟨_,H2,(I2.unpin).kept hk,r,q⟩
 have w:∀i v,its.toArray[i]?=some v->∃(hi:i < ps.length) (t:Tok),v= .int (ps[i]:Int) t:=fun i v e=>by
  have e':its[i]?=some v:=by simpa using e
  have hi:i < ps.length:=by have:=(zb.mp e').1;omega
  obtain⟨y,ey,ry⟩:=rv.get (i:=i) (x:= .int (ps[i]:Int)) (by unfold nv;rw[z7,yZ hi];rfl)
  rw[e']at ey;cases ey;exact⟨hi,ry⟩
 refine wpAny_pure ⟨plainId_quiet PySem.F.plain_min_loop _,lG (s₀:=d) (G:=fun h=>∀b o,d.heap.get? b=some o->h.get? b=some o) (kf:=fun i=>ns.getD (ps.getD i 0) 0) (Walks.list (A:=X.A.in1) (I2.ok.hd hc) d.heap.objs.size b (zp a6) its.toArray) (fun hm=>?_) (fun h h' g k b o e=>?_) (fun i v h tk hi pv g=>?_) .none
  ⟨⟨_,Heap.get?_push_of_some _ (Heap.get?_push_size _ rfl),rfl,rfl⟩,(pl.isList.push _).push _⟩ (fun b o e=>Heap.get?_push_of_some _ (Heap.get?_push_of_some _ e)) (Heap.get?_push_size _ rfl) (fun hz h' tk hk=>?_) fun i v h' tk hi pv a1 hk=>?_⟩
 . rcases zc.mp hm with e|hm
   . exact absurd ((ac _).symm.trans e) (Nat.succ_ne_self _)
   . exact absurd ((ac _).symm.trans (zw.mp hm)) (Nat.ne_of_gt (Ai a6))
 . refine k b o (fun hm=>?_) (fun e'=>?_) (g b o e)
   . rw[zw.mp hm]at e;exact AH _ (Heap.lt_size e)
   . have l:=Heap.lt_size e;rw[e']at l;exact absurd l (by rw[ac];exact Nat.not_lt.mpr (Nat.le_succ _))
 . refine hZq fun q_ e_=>?_;obtain⟨n,t,rfl⟩:=w i v pv;have hp:=bT _ (A7 n);have ei:ps.getD i 0=ps[i]:=by simp[n]
   obtain⟨y,ey,ry⟩:=bI.get (i:=ps[i]) (x:= .int ns[ps[i]]) (by rw[z7,yZ hp];rfl)
   obtain⟨ty,rfl⟩:=ry;obtain⟨oa,bw,bi⟩:=bg.isList;subst e_;have hz:=fG;rw[yY]at bx;refine sL (s:= {d with heap:=h,toks:=tk}) (a:=a) (its:=a4.toArray) (show X.A.in1.depth < _ from hr.depth) (g _ _ bj) ?_ ?_ (af.keeps g) ⟨oa,g _ _ bw,bi⟩ (by omega) ?_ (u:=ty) ?_
   . refine hZq fun q_ e_=>?_;obtain⟨c2,o,vs,t,e,ho,z⟩:=bb;subst e_;exact⟨c2,o,vs,t,e,g _ _ ho,z⟩
   . exact I2.nolimit.keeps g
   . have:((ps[i]:Nat):Int) < (sizeLine:Int):=by omega
     omega
   . show(a4.toArray)[((ps[i]:Nat):Int).toNat]?=some (.int (ns.getD (ps.getD i 0) 0) ty);rw[ei,Ad,show ns.getD ps[i] 0=ns[ps[i]]by simp[hp]]
     simpa using ey
 . rw[z9]at hz;exact fin (x:= .non) (a5 hk) rfl (aT (List.eq_nil_of_length_eq_zero (by omega)) H2 bt a7)
 . obtain⟨n,t,rfl⟩:=w i v pv;have ei:ps.getD i 0=ps[i]:=by simp[n]
   refine fin (x:= .int (ps[i]:Int)) (a5 hk) ⟨_,rfl⟩ (aC _ (A7 n) (fun r mr=>?_) H2 bt a7);obtain⟨j,hj,rfl⟩:=Ah mr;have:=a1 j (by rw[z9];omega)
   rw[ei,show ps.getD j 0=ps[j]by simp[hj]]at this
   exact this
end L2
namespace Wg
def sumN:Nat->(Nat->Int)->Int
 |0,_=>0
 |n+1,f=>sumN n f+f n
theorem sumN_congr{n:Nat}{f g:Nat->Int}(h:∀i,i < n->f i=g i):sumN n f=sumN n g:=by
 induction n with
 |zero=>rfl
 |succ n a=>
  rw[sumN,sumN,a fun i hi=>h i (Ai hi),h n (Ay n)]
theorem sumN_add{n:Nat}{f g:Nat->Int}:sumN n (fun i=>f i+g i)=sumN n f+sumN n g:=by
 induction n with
 |zero=>rfl
 |succ n a=>
  simp only[sumN,a];omega
theorem sumN_mul{n:Nat}{x:Int}{f:Nat->Int}:sumN n (fun i=>x*f i)=x*sumN n f:=by
 induction n with
 |zero=>simp[sumN]
 |succ n a=>simp only[sumN,a,Int.mul_add]
theorem sumN_zero{n:Nat}{f:Nat->Int}(h:∀i,i < n->f i=0):sumN n f=0:=by
 induction n with
 |zero=>rfl
 |succ n a=>
  rw[sumN,a fun i hi=>h i (Ai hi),h n (Ay n)];rfl
theorem sumN_one{n k:Nat}{f:Nat->Int}(hk:k < n)(h:∀i,i < n->i≠k->f i=0):sumN n f=f k:=by
 induction n with
 |zero=>omega
 |succ n a=>
  rw[sumN];by_cases e:k=n
  . subst e;rw[sumN_zero fun i hi=>h i (Ai hi) (by omega)]
    omega
  . rw[a (by omega) fun i hi=>h i (Ai hi),h n (Ay n) (fun z=>e z.symm)]
    omega
theorem pU{n k:Nat}{f:Nat->Int}(hk:k+1 < n)(h:∀i,i < n->i≠k->i≠k+1->f i=0):sumN n f=f k+f (k+1):=by
 induction n with
 |zero=>omega
 |succ n a=>
  rw[sumN];by_cases e:k+1=n
  . subst e;rw[sumN_one (k:=k) (by omega) fun i hi hne=>h i (by omega) hne (by omega)]
  . rw[a (by omega) fun i hi=>h i (Ai hi),h n (Ay n) (by omega) (by omega)]
    omega
def sgn:Nat->Int
 |0=>1
 |n+1=> -sgn n
abbrev Vec:=Nat->Int
noncomputable def setV(B:Nat->Vec)(i:Nat)(v:Vec):Nat->Vec:=fun k=>if k=i then v else B k
theorem bJ{B:Nat->Vec}{i:Nat}{v:Vec}:setV B i v i=v:=by unfold setV;rw[if_pos rfl]
theorem cj{B:Nat->Vec}{i k:Nat}{v:Vec}(h:k≠i):setV B i v k=B k:=by unfold setV;rw[if_neg h]
noncomputable def skip(j:Nat)(B:Nat->Vec):Nat->Vec:=fun k c=>B (if k < j then k else k+1) (c+1)
noncomputable def det:Nat->(Nat->Vec)->Int
 |0,_=>1
 |m+1,B=>sumN (m+1) fun j=>sgn j*B j 0*det m (skip j B)
theorem fK:∀(m:Nat) {B C:Nat->Vec},(∀k c,k < m->c < m->B k c=C k c)->det m B=det m C
 |0,_,_,_=>rfl
 |m+1,B,C,h=>by
  rw[det,det];refine sumN_congr fun j a=>?_;rw[h j 0 a (by omega),fK m (B:=skip j B) (C:=skip j C) fun k c hk hc=>?_]
  unfold skip;split
  . exact h k (c+1) (by omega) (by omega)
  . exact h (k+1) (c+1) (by omega) (by omega)
theorem cL{B:Nat->Vec}{i:Nat}{v:Vec}:skip i (setV B i v)=skip i B:=by
 funext k c;unfold skip;rw[cj (by split<;>omega)]
def pos(j i:Nat):Nat:=if i < j then i else i - 1
def sh(v:Vec):Vec:=fun c=>v (c+1)
theorem gL{B:Nat->Vec}{i j:Nat}{v:Vec}(h:j≠i):skip j (setV B i v)=setV (skip j B) (pos j i) (sh v):=by
 funext k c;unfold skip setV pos sh;by_cases a:i < j
 . rw[if_pos a];by_cases hk:k < j
   . rw[if_pos hk];by_cases e:k=i
     . rw[if_pos e,if_pos e]
     . rw[if_neg e,if_neg e];show _=B (if k < j then k else k+1) (c+1);rw[if_pos hk]
   . rw[if_neg hk,if_neg (by omega),if_neg (by omega)]
     show _=B (if k < j then k else k+1) (c+1);rw[if_neg hk]
 . rw[if_neg a];by_cases hk:k < j
   . rw[if_pos hk,if_neg (by omega),if_neg (by omega)]
     show _=B (if k < j then k else k+1) (c+1);rw[if_pos hk]
   . rw[if_neg hk];by_cases e:k+1=i
     . rw[if_pos e,if_pos (by omega)]
     . rw[if_neg e,if_neg (by omega)]
       show _=B (if k < j then k else k+1) (c+1);rw[if_neg hk]
theorem jB:∀(m:Nat) (B:Nat->Vec) (i:Nat) (x y:Int) (u v:Vec),i < m->det m (setV B i fun c=>x*u c+y*v c)=x*det m (setV B i u)+y*det m (setV B i v)
 |0,_,i,_,_,_,_,h=>by omega
 |m+1,B,i,x,y,u,v,h=>by
  rw[det,det,det,<-sumN_mul,<-sumN_mul,<-sumN_add];refine sumN_congr fun j a=>?_;by_cases e:j=i
  . subst e;rw[bJ,bJ,bJ,cL,cL,cL];simp only[Int.mul_add,Int.add_mul];congr 1<;>simp only[<-Int.mul_assoc]<;>congr 1<;>rw[AM (sgn j)]
  . rw[cj e,cj e,cj e,gL e,gL e,gL e];have hp:pos j i < m:=by unfold pos;split<;>omega
    have:=jB m (skip j B) (pos j i) x y (sh u) (sh v) hp;have e2:(sh fun c=>x*u c+y*v c)=fun c=>x*sh u c+y*sh v c:=rfl;rw[e2,this,Int.mul_add];rw[Int.mul_left_comm _ x,Int.mul_left_comm _ y]
theorem gg:∀(m:Nat) (B:Nat->Vec) (a:Nat),a+1 < m->B a=B (a+1)->det m B=0
 |0,_,_,h,_=>by omega
 |m+1,B,a,h,e=>by
  rw[det,pU (k:=a) h]
  . have hs:skip a B=skip (a+1) B:=by
     funext k c;unfold skip;by_cases hk:k < a
     . rw[if_pos hk,if_pos (by omega)]
     . rw[if_neg hk];by_cases d:k < a+1
       . have:k=a:=by omega
         subst this;rw[if_pos d,e]
       . rw[if_neg d]
    rw[hs,e];show _+ -sgn a*_*_=_;rw[Int.neg_mul,Int.neg_mul];omega
  . intro j g h1 h2
    have:det m (skip j B)=0:=by
     by_cases hl:a+1 < j
     . refine gg m (skip j B) a (by omega) ?_
       funext c;unfold skip;rw[if_pos (by omega),if_pos hl,e]
     . have f:j < a:=by omega
       obtain⟨b,rfl⟩:∃b,a=b+1:=⟨a - 1,by omega⟩
       refine gg m (skip j B) b (by omega) ?_
       funext c;unfold skip;rw[if_neg (by omega),if_neg (by omega),e]
    rw[this,Aq]
theorem set_comm{B:Nat->Vec}{i j:Nat}{u v:Vec}(h:i≠j):setV (setV B i u) j v=setV (setV B j v) i u:=by
 funext k;unfold setV;by_cases e:k=j
 . rw[if_pos e,if_neg (by omega),if_pos e]
 . rw[if_neg e];by_cases e2:k=i
   . rw[if_pos e2,if_pos e2]
   . rw[if_neg e2,if_neg e2,if_neg e]
theorem gM{B:Nat->Vec}{i:Nat}:setV B i (B i)=B:=by
 funext k;unfold setV;by_cases e:k=i
 . rw[if_pos e,e]
 . rw[if_neg e]
theorem jC{m:Nat}(B:Nat->Vec)(i:Nat)(u v:Vec)(h:i < m):det m (setV B i fun c=>u c+v c)=det m (setV B i u)+det m (setV B i v):=by
 have:=jB m B i 1 1 u v h;rw[Int.one_mul,Int.one_mul]at this;rw[<-this];congr 2;funext c;rw[Int.one_mul,Int.one_mul]
theorem jA{m:Nat}(B:Nat->Vec)(i:Nat)(x:Int)(u:Vec)(h:i < m):det m (setV B i fun c=>x*u c)=x*det m (setV B i u):=by
 have:=jB m B i x 0 u u h;rw[Af,Int.add_zero]at this;rw[<-this];congr 2;funext c;rw[Af,Int.add_zero]
theorem tw{m:Nat}(B:Nat->Vec)(a:Nat)(u v:Vec)(h:a+1 < m):det m (setV (setV B a u) (a+1) v)= -det m (setV (setV B a v) (a+1) u):=by
 have z:∀w:Vec,det m (setV (setV B a w) (a+1) w)=0:=fun w=>gg m _ a h (by rw[bJ,cj (by omega),bJ])
 have t:=z fun c=>u c+v c
 have q:∀w:Vec,det m (setV (setV B a fun c=>u c+v c) (a+1) w)=det m (setV (setV B a u) (a+1) w)+det m (setV (setV B a v) (a+1) w):=by
  intro w;rw[set_comm (by omega),jC _ _ _ _ (by omega),set_comm (by omega),set_comm (i:=a+1) (j:=a) (u:=w) (v:=v) (by omega)]
 rw[jC _ _ _ _ h,q,q]at t;rw[z u,z v]at t;omega
theorem lR:∀(d m:Nat) (B:Nat->Vec) (i:Nat),i+d+1 < m->B i=B (i+d+1)->det m B=0
 |0,m,B,i,h,e=>gg m B i h e
 |d+1,m,B,i,h,e=>by
  have hb:B=setV (setV B (i+d+1) (B (i+d+1))) (i+d+1+1) (B (i+d+1+1)):=by rw[gM,gM]
  rw[hb,tw B (i+d+1) _ _ h];rw[lR d m (setV (setV B (i+d+1) (B (i+d+1+1))) (i+d+1+1) (B (i+d+1))) i (by omega)]
  . rfl
  . rw[cj (by omega),cj (by omega),cj (by omega),bJ]
    exact e
theorem vf{m:Nat}{B:Nat->Vec}{i j:Nat}(hi:i < m)(hj:j < m)(hne:i≠j)(e:B i=B j):det m B=0:=by
 by_cases h:i < j
 . obtain⟨d,rfl⟩:∃d,j=i+d+1:=⟨j - i - 1,by omega⟩
   exact lR d m B i hj e
 . obtain⟨d,rfl⟩:∃d,i=j+d+1:=⟨i - j - 1,by omega⟩
   exact lR d m B j hi e.symm
theorem nO{m:Nat}(B:Nat->Vec)(i:Nat)(h:i < m)(e:Nat->Int)(W:Nat->Vec):∀n:Nat,det m (setV B i fun c=>sumN n fun k=>e k*W k c)=sumN n fun k=>e k*det m (setV B i (W k))
 |0=>by
  have:=jA B i 0 (fun _=>0) h;rw[Af (det m _)]at this;show det m (setV B i fun _=>0)=0;exact this
 |n+1=>by
  rw[sumN,<-nO B i h e W n,<-jA B i (e n) (W n) h,<-jC _ _ _ _ h];rfl
theorem jD{m:Nat}(B:Nat->Vec)(D:Int)(V:Vec)(e:Nat->Int)(hV:∀c,c < m->D*V c=sumN m fun k=>e k*B k c)(i:Nat)(h:i < m):D*det m (setV B i V)=e i*det m B:=by
 rw[<-jA B i D V h];rw[fK m (C:=setV B i fun c=>sumN m fun k=>e k*B k c)]
 . rw[nO B i h e B m,sumN_one (k:=i) h]
   . rw[gM]
   . intro k hk hne;rw[vf (i:=k) (j:=i) hk h hne,Aq];rw[bJ,cj hne]
 . intro k c hk hc;by_cases e':k=i
   . subst e';rw[bJ,bJ];exact hV c hc
   . rw[cj e',cj e']
theorem eJ{n r:Nat}{f:Nat->Int}{a:Int}(h:r < n):(sumN n fun i=>if i=r then a else f i)=sumN n f - f r+a:=by
 induction n with
 |zero=>omega
 |succ n b=>
  rw[sumN,sumN];by_cases e:r=n
  . subst e;rw[if_pos rfl,sumN_congr (g:=f) fun i hi=>if_neg (by omega)]
    omega
  . rw[b (by omega),if_neg (by omega)]
    omega
structure Tb where
 bot:Int
 ln:Nat->Nat->Int
 sd:Nat->Nat
 hd:Nat->Nat
noncomputable def Tb.W(T:Tb)(V:Nat->Vec)(R:Nat->Vec)(n c:Nat):Vec:=fun t=>if c < n then -V (T.hd c) t else R c t
structure Inv (m n:Nat) (V R:Nat->Vec) (T:Tb):Prop where
 pos:0 < T.bot
 det:(det m fun i=>V (T.sd i)).natAbs=T.bot.natAbs
 ln:∀c t,c < n+2->t < m->(sumN m fun i=>T.ln i c*V (T.sd i) t)=T.bot*T.W V R n c t
def sg(p:Int):Int:=if p > 0 then 1 else -1
theorem qK(p:Int):sg p*p=(p.natAbs:Int):=by
 unfold sg;by_cases h:p > 0
 . rw[if_pos h];omega
 . rw[if_neg h];omega
theorem yn(p:Int):sg p*sg p=1:=by
 unfold sg;by_cases h:p > 0
 . rw[if_pos h];rfl
 . rw[if_neg h];rfl
noncomputable def Tb.num(T:Tb)(r q i c:Nat):Int:=T.ln i c*(T.ln r q).natAbs - sg (T.ln r q)*T.ln i q*T.ln r c
noncomputable def piv(T:Tb)(r q:Nat):Tb where
 bot:=(T.ln r q).natAbs
 ln:=fun i c=>if i=r then(if c=q then sg (T.ln r q)*T.bot else -sg (T.ln r q)*T.ln r c)
  else if c=q then sg (T.ln r q)*T.ln i q else T.num r q i c / T.bot
 sd:=fun i=>if i=r then T.hd q else T.sd i
 hd:=fun c=>if c=q then T.sd r else T.hd c
theorem yK(T:Tb)(r q c:Nat):T.num r q r c=0:=by
 unfold Tb.num;rw[qK,AM];omega
theorem xV{a b:Int}(h:a.natAbs=b.natAbs):∃s:Int,a=s*b/\b=s*a/\s*s=1:=by
 rcases Int.natAbs_eq_natAbs_iff.1 h with e|e
 . exact⟨1,by omega,by omega,rfl⟩
 . exact⟨-1,by omega,by omega,rfl⟩
theorem wq{V:Nat->Vec}{T:Tb}{r q:Nat}:(fun i=>V ((piv T r q).sd i))=setV (fun i=>V (T.sd i)) r (V (T.hd q)):=by
 funext i;unfold setV piv;by_cases e:i=r
 . rw[if_pos e];simp only[e,if_true]
 . rw[if_neg e];simp only[e,if_false]
theorem mQ{m n:Nat}{V R:Nat->Vec}{T:Tb}(I:Inv m n V R T){r q:Nat}(hr:r < m)(hq:q < n):(det m fun i=>V ((piv T r q).sd i)).natAbs=(T.ln r q).natAbs:=by
 rw[wq]
 have h:=jD (fun i=>V (T.sd i)) (-T.bot) (V (T.hd q)) (fun i=>T.ln i q) (fun t ht=>by
  rw[I.ln q t (by omega) ht]
  unfold Tb.W
  rw[if_pos hq,Int.mul_neg,Int.neg_mul]) r hr
 have h2:=congrArg Int.natAbs h;rw[zM,zM,I.det,AA,AL]at h2;have:=I.pos;exact Nat.eq_of_mul_eq_mul_right (by omega) h2
theorem mX{i r:Nat}{a b c d:Int}:(if i=r then a else b)*(if i=r then c else d)=if i=r then a*c else b*d:=by
 by_cases e:i=r
 . rw[if_pos e,if_pos e,if_pos e]
 . rw[if_neg e,if_neg e,if_neg e]
theorem rF{V:Nat->Vec}{T:Tb}{r q i t:Nat}:V ((piv T r q).sd i) t=if i=r then V (T.hd q) t else V (T.sd i) t:=by
 unfold piv;by_cases e:i=r
 . simp only[e,if_true]
 . simp only[e,if_false]
theorem Inv.col{m n:Nat}{V R:Nat->Vec}{T:Tb}(I:Inv m n V R T){q t:Nat}(hq:q < n)(ht:t < m):(sumN m fun i=>T.ln i q*V (T.sd i) t)= -(T.bot*V (T.hd q) t):=by
 rw[I.ln q t (by omega) ht]
 unfold Tb.W;rw[if_pos hq,Int.mul_neg]
theorem mP{m n:Nat}{V R:Nat->Vec}{T:Tb}(I:Inv m n V R T){r q:Nat}(hr:r < m)(hq:q < n){c t:Nat}(hc:c < n+2)(ht:t < m):
 (sumN m fun i=>(if i=r then -sg (T.ln r q)*T.bot*T.ln r c else T.num r q i c)*V ((piv T r q).sd i) t)=T.bot*(T.ln r q).natAbs*T.W V R n c t:=by
 have e1:∀i,i < m->(if i=r then -sg (T.ln r q)*T.bot*T.ln r c else T.num r q i c)*V ((piv T r q).sd i) t=if i=r then -sg (T.ln r q)*T.bot*T.ln r c*V (T.hd q) t else T.num r q i c*V (T.sd i) t:=by
  intro i hi;rw[rF (V:=V),mX]
 rw[sumN_congr e1,eJ hr,yK]
 have e2:∀i,i < m->T.num r q i c*V (T.sd i) t=(T.ln r q).natAbs*(T.ln i c*V (T.sd i) t)+(-(sg (T.ln r q)*T.ln r c))*(T.ln i q*V (T.sd i) t):=by
  intro i hi;unfold Tb.num;grind
 rw[sumN_congr e2,sumN_add,sumN_mul,sumN_mul,I.ln c t hc ht,I.col hq ht];grind
theorem uz{m n:Nat}{V R:Nat->Vec}{T:Tb}(I:Inv m n V R T){r q:Nat}(hr:r < m)(hq:q < n)(hp:T.ln r q≠0){c:Nat}(hc:c < n+2){i:Nat}(hi:i < m)(hne:i≠r):
 ∃x:Int,T.num r q i c=T.bot*x/\x.natAbs=(det m (setV (fun i=>V ((piv T r q).sd i)) i (T.W V R n c))).natAbs:=by
 have h:=jD (fun i=>V ((piv T r q).sd i)) (T.bot*(T.ln r q).natAbs) (T.W V R n c) (fun i=>if i=r then -sg (T.ln r q)*T.bot*T.ln r c else T.num r q i c) (fun t ht=>(mP I hr hq hc ht).symm) i hi;obtain⟨s,h1,h2,h3⟩:=xV (a:=det m fun i=>V ((piv T r q).sd i)) (b:=((T.ln r q).natAbs:Int)) (by rw[mQ I hr hq];rfl)
 rw[h1]at h;simp only[hne,if_false]at h;have hz:((T.ln r q).natAbs:Int)≠0:=by omega
 refine⟨s*det m (setV (fun i=>V ((piv T r q).sd i)) i (T.W V R n c)),Int.eq_of_mul_eq_mul_right hz ?_,?_⟩
 . generalize det m (setV (fun i=>V ((piv T r q).sd i)) i (T.W V R n c))=d at h;generalize T.num r q i c=u at h;generalize ((T.ln r q).natAbs:Int)=p at h;grind
 . rw[zM];have:s.natAbs*s.natAbs=1:=by rw[<-zM,h3];rfl
   rw[Nat.eq_one_of_mul_eq_one_right this,Nat.one_mul]
theorem uy{m n:Nat}{V R:Nat->Vec}{T:Tb}(I:Inv m n V R T){r q:Nat}(hr:r < m)(hq:q < n)(hp:T.ln r q≠0){c:Nat}(hc:c < n+2){i:Nat}(hi:i < m)(hne:i≠r):
 T.bot*(T.num r q i c / T.bot)=T.num r q i c:=by
 obtain⟨x,h,_⟩:=uz I hr hq hp hc hi hne;have:=I.pos;rw[h,Int.mul_ediv_cancel_left _ (by omega)]
theorem piv_inv{m n:Nat}{V R:Nat->Vec}{T:Tb}(I:Inv m n V R T){r q:Nat}(hr:r < m)(hq:q < n)(hp:T.ln r q≠0):Inv m n V R (piv T r q):=by
 refine⟨?_,?_,?_⟩
 . show(0:Int) < (T.ln r q).natAbs;omega
 . rw[mQ I hr hq];rfl
 . intro c t hc ht;by_cases e:c=q
   . subst e
     have e1:∀i,i < m->(piv T r c).ln i c*V ((piv T r c).sd i) t=if i=r then sg (T.ln r c)*T.bot*V (T.hd c) t else sg (T.ln r c)*(T.ln i c*V (T.sd i) t):=by
      intro i hi;rw[rF (V:=V)];show(if i=r then(if c=c then _ else _)else if c=c then _ else _)*_=_;rw[if_pos rfl,if_pos rfl,mX,Int.mul_assoc (sg _) (T.ln i c)]
     rw[sumN_congr e1,eJ hr,sumN_mul,I.col hq ht];show _=((T.ln r c).natAbs:Int)*(if c < n then -V (if c=c then T.sd r else T.hd c) t else R c t);rw[if_pos hq,if_pos rfl,<-qK];grind
   . have e1:∀i,i < m->T.bot*((piv T r q).ln i c*V ((piv T r q).sd i) t)=(if i=r then -sg (T.ln r q)*T.bot*T.ln r c else T.num r q i c)*V ((piv T r q).sd i) t:=by
      intro i hi;show T.bot*((if i=r then(if c=q then _ else _)else if c=q then _ else _)*_)=_;rw[if_neg e,if_neg e,<-Int.mul_assoc];congr 1;by_cases ei:i=r
      . rw[if_pos ei,if_pos ei];grind
      . rw[if_neg ei,if_neg ei];exact uy I hr hq hp hc hi ei
     have hb:T.bot≠0:=by have:=I.pos;omega
     refine Int.eq_of_mul_eq_mul_left hb ?_;rw[<-sumN_mul,sumN_congr e1,mP I hr hq hc ht,Int.mul_assoc];congr 2;show(if c < n then -V (T.hd c) t else R c t)=(if c < n then -V (if c=q then T.sd r else T.hd c) t else R c t);rw[if_neg e]
def fac:Nat->Nat
 |0=>1
 |n+1=>(n+1)*fac n
theorem ui{n K:Nat}{f:Nat->Int}(h:∀i,i < n->(f i).natAbs<=K):(sumN n f).natAbs<=n*K:=by
 induction n with
 |zero=>exact zr _
 |succ n a=>
  rw[sumN,Nat.succ_mul];exact zh (Int.natAbs_add_le _ _) (Nat.add_le_add (a fun i hi=>h i (by omega)) (h n (by omega)))
theorem mH:∀j:Nat,(sgn j).natAbs=1
 |0=>rfl
 |j+1=>by rw[sgn,AA,mH j]
theorem lQ{M:Nat}:∀(m:Nat) (B:Nat->Vec),(∀k c,k < m->c < m->(B k c).natAbs<=M)->(det m B).natAbs<=fac m*M^m
 |0,_,_=>z4 _
 |m+1,B,h=>by
  rw[det,fac,Nat.mul_assoc];refine ui fun j a=>?_;rw[zM,zM,mH,Nat.one_mul,Nat.pow_succ,<-Nat.mul_assoc,AL];refine AI (lQ m (skip j B) fun k c hk hc=>?_) (h j 0 a (by omega))
  unfold skip;split
  . exact h _ _ (by omega) (by omega)
  . exact h _ _ (by omega) (by omega)
theorem Inv.entry{m n:Nat}{V R:Nat->Vec}{T:Tb}(I:Inv m n V R T){i c:Nat}(hi:i < m)(hc:c < n+2):(T.ln i c).natAbs=(Wg.det m (setV (fun i=>V (T.sd i)) i (T.W V R n c))).natAbs:=by
 have h:=congrArg Int.natAbs (jD (fun i=>V (T.sd i)) T.bot (T.W V R n c) (fun i=>T.ln i c) (fun t ht=>(I.ln c t hc ht).symm) i hi);rw[zM,zM,I.det,AL]at h;have:=I.pos;exact(Nat.eq_of_mul_eq_mul_right (by omega) h).symm
theorem Inv.bot_le{m n M:Nat}{V R:Nat->Vec}{T:Tb}(I:Inv m n V R T)(hV:∀k t,t < m->(V k t).natAbs<=M):T.bot.natAbs<=fac m*M^m:=by
 rw[<-I.det];exact lQ m _ fun k c hk hc=>hV _ c hc
theorem Inv.ln_le{m n M:Nat}{V R:Nat->Vec}{T:Tb}(I:Inv m n V R T)(hV:∀k t,t < m->(V k t).natAbs<=M)(hR:∀c t,c < n+2->t < m->(R c t).natAbs<=M){i c:Nat}(hi:i < m)(hc:c < n+2):(T.ln i c).natAbs<=fac m*M^m:=by
 rw[I.entry hi hc];refine lQ m _ fun k t hk ht=>?_;by_cases e:k=i
 . subst e;rw[bJ];unfold Tb.W;split
   . rw[AA];exact hV _ t ht
   . exact hR c t hc ht
 . rw[cj e];exact hV _ t ht
theorem fk{g:Nat->Nat->Int}:∀(m n:Nat),(sumN m fun i=>sumN n fun c=>g i c)=sumN n fun c=>sumN m fun i=>g i c
 |0,n=>by
  show 0=_;exact(sumN_zero fun c hc=>rfl).symm
 |m+1,n=>by
  show _+_=sumN n fun c=>(sumN m fun i=>g i c)+g m c;rw[sumN_add,fk m n]
theorem yQ{m:Nat}{B:Nat->Vec}(hB:det m B≠0)(y:Nat->Int)(h:∀t,t < m->(sumN m fun i=>y i*B i t)=0){i:Nat}(hi:i < m):y i=0:=by
 have:=jD B 0 (fun _=>0) y (fun t ht=>by rw[h t ht];rfl) i hi
 rw[Af]at this;exact(Int.mul_eq_zero.1 this.symm).resolve_right hB
theorem Inv.nz{m n:Nat}{V R:Nat->Vec}{T:Tb}(I:Inv m n V R T):(Wg.det m fun i=>V (T.sd i))≠0:=by
 intro h;have h1:=I.det;have:=I.pos;rw[h]at h1;have h2:(0:Int).natAbs=0:=rfl;omega
theorem sumN_mulr{n:Nat}{x:Int}{f:Nat->Int}:(sumN n fun i=>f i*x)=sumN n f*x:=by
 rw[AM,<-sumN_mul];exact sumN_congr fun i hi=>AM _ _
theorem Inv.row{m n:Nat}{V R:Nat->Vec}{T:Tb}(I:Inv m n V R T)(x:Nat->Int)(b e:Int)(hx:∀t,t < m->((sumN m fun i=>x (T.sd i)*V (T.sd i) t)+sumN n fun c=>x (T.hd c)*V (T.hd c) t)=b*R n t+e*R (n+1) t){i:Nat}(hi:i < m):
 T.bot*x (T.sd i)=(sumN n fun c=>T.ln i c*x (T.hd c))+b*T.ln i n+e*T.ln i (n+1):=by
 have key:=yQ I.nz (fun i=>T.bot*x (T.sd i)+ -1*((sumN n fun c=>T.ln i c*x (T.hd c))+b*T.ln i n+e*T.ln i (n+1))) (fun t ht=>?_) hi
 . omega
 . have e1:∀i,i < m->(T.bot*x (T.sd i)+ -1*((sumN n fun c=>T.ln i c*x (T.hd c))+b*T.ln i n+e*T.ln i (n+1)))*V (T.sd i) t
    =T.bot*(x (T.sd i)*V (T.sd i) t)+ -1*((sumN n fun c=>T.ln i c*x (T.hd c)*V (T.sd i) t)+b*(T.ln i n*V (T.sd i) t)+e*(T.ln i (n+1)*V (T.sd i) t)):=by
    intro i hi;rw[sumN_mulr];grind
   rw[sumN_congr e1,sumN_add,sumN_mul,sumN_mul,sumN_add,sumN_add,sumN_mul,sumN_mul,fk]
   have e2:∀c,c < n->(sumN m fun i=>T.ln i c*x (T.hd c)*V (T.sd i) t)= -T.bot*(x (T.hd c)*V (T.hd c) t):=by
    intro c hc;rw[sumN_congr (g:=fun i=>x (T.hd c)*(T.ln i c*V (T.sd i) t)) fun i hi=>by grind,sumN_mul,I.col hc ht]
    grind
   rw[sumN_congr e2,sumN_mul,I.ln n t (by omega) ht,I.ln (n+1) t (by omega) ht]
   have d:T.W V R n n t=R n t:=if_neg (by omega)
   have a:T.W V R n (n+1) t=R (n+1) t:=if_neg (by omega)
   rw[d,a];have:=hx t ht;grind
theorem bM{f:Nat->Int}:∀ {n:Nat},(∀i,i < n->0<=f i)->0<=sumN n f
 |0,_=>Int.le_refl _
 |n+1,h=>by
  rw[sumN];have:=bM (n:=n) fun i hi=>h i (by omega)
  have:=h n (by omega)
  omega
theorem cH{f:Nat->Int}{k:Nat}:∀ {n:Nat},(∀i,i < n->0<=f i)->k < n->f k<=sumN n f
 |0,_,hk=>by omega
 |n+1,h,hk=>by
  rw[sumN];have h2:=h n (by omega)
  by_cases e:k=n
  . subst e;have:=bM (n:=k) fun i hi=>h i (by omega)
    omega
  . have:=cH (n:=n) (fun i hi=>h i (by omega)) (by omega:k < n)
    omega
theorem gC{f:Nat->Int}{k l:Nat}:∀ {n:Nat},(∀i,i < n->0<=f i)->k < n->l < n->k≠l->f k+f l<=sumN n f
 |0,_,hk,_,_=>by omega
 |n+1,h,hk,hl,hne=>by
  rw[sumN];have h2:=h n (by omega)
  by_cases e:k=n
  . subst e;have:=cH (k:=l) (n:=k) (fun i hi=>h i (by omega)) (by omega)
    omega
  . by_cases e2:l=n
    . subst e2;have:=cH (k:=k) (n:=l) (fun i hi=>h i (by omega)) (by omega)
      omega
    . have:=gC (n:=n) (fun i hi=>h i (by omega)) (by omega:k < n) (by omega:l < n) hne
      omega
def Pm(m n:Nat)(T:Tb):Prop:=∀f:Nat->Int,(sumN m fun i=>f (T.sd i))+(sumN n fun c=>f (T.hd c))=sumN (m+n) f
def ind(k:Nat):Nat->Int:=fun x=>if x=k then 1 else 0
theorem cO(k x:Nat):0<=ind k x:=by unfold ind;split<;>omega
theorem bS(k:Nat):ind k k=1:=if_pos rfl
theorem dE{k x:Nat}(h:x≠k):ind k x=0:=if_neg h
theorem j7{k N:Nat}:sumN N (ind k)<=1:=by
 by_cases h:k < N
 . rw[sumN_one h fun i hi hne=>dE hne,bS];exact Int.le_refl _
 . rw[sumN_zero fun i hi=>dE (by omega)]
   decide
theorem Pm.sd_lt{m n:Nat}{T:Tb}(P:Pm m n T){i:Nat}(hi:i < m):T.sd i < m+n:=by
 refine Classical.byContradiction fun h=>?_;have h1:=P (ind (T.sd i));rw[sumN_zero (f:=ind (T.sd i)) (n:=m+n) fun j a=>dE (by omega)]at h1
 have h2:=cH (f:=fun j=>ind (T.sd i) (T.sd j)) (fun j a=>cO _ _) hi;have h3:=bM (f:=fun c=>ind (T.sd i) (T.hd c)) (n:=n) fun j a=>cO _ _;rw[bS]at h2;omega
theorem Pm.hd_lt{m n:Nat}{T:Tb}(P:Pm m n T){c:Nat}(hc:c < n):T.hd c < m+n:=by
 refine Classical.byContradiction fun h=>?_;have h1:=P (ind (T.hd c));rw[sumN_zero (f:=ind (T.hd c)) (n:=m+n) fun j a=>dE (by omega)]at h1
 have h2:=cH (f:=fun j=>ind (T.hd c) (T.hd j)) (fun j a=>cO _ _) hc;have h3:=bM (f:=fun j=>ind (T.hd c) (T.sd j)) (n:=m) fun j a=>cO _ _;rw[bS]at h2;omega
theorem Pm.inj{m n:Nat}{T:Tb}(P:Pm m n T){i j:Nat}(hi:i < m)(hj:j < m)(e:T.sd i=T.sd j):i=j:=by
 refine Classical.byContradiction fun h=>?_;have h1:=P (ind (T.sd i));have a:=j7 (k:=T.sd i) (N:=m+n);have h2:=gC (f:=fun j=>ind (T.sd i) (T.sd j)) (fun j hj=>cO _ _) hi hj h;have h3:=bM (f:=fun c=>ind (T.sd i) (T.hd c)) (n:=n) fun j hj=>cO _ _;rw[<-e,bS]at h2;omega
theorem Pm.injh{m n:Nat}{T:Tb}(P:Pm m n T){i j:Nat}(hi:i < n)(hj:j < n)(e:T.hd i=T.hd j):i=j:=by
 refine Classical.byContradiction fun h=>?_;have h1:=P (ind (T.hd i));have a:=j7 (k:=T.hd i) (N:=m+n);have h2:=gC (f:=fun j=>ind (T.hd i) (T.hd j)) (fun j hj=>cO _ _) hi hj h;have h3:=bM (f:=fun c=>ind (T.hd i) (T.sd c)) (n:=m) fun j hj=>cO _ _;rw[<-e,bS]at h2;omega
theorem Pm.disj{m n:Nat}{T:Tb}(P:Pm m n T){i c:Nat}(hi:i < m)(hc:c < n):T.sd i≠T.hd c:=by
 intro e;have h1:=P (ind (T.sd i));have b:=j7 (k:=T.sd i) (N:=m+n);have h2:=cH (f:=fun j=>ind (T.sd i) (T.sd j)) (fun j a=>cO _ _) hi;have h3:=cH (f:=fun c=>ind (T.sd i) (T.hd c)) (fun j a=>cO _ _) hc;rw[bS]at h2;rw[<-e,bS]at h3;omega
theorem Pm.cov{m n:Nat}{T:Tb}(P:Pm m n T){k:Nat}(hk:k < m+n):(∃i,i < m/\T.sd i=k)\/∃c,c < n/\T.hd c=k:=by
 refine Classical.byContradiction fun h=>?_;have h1:=P (ind k);rw[sumN_one hk fun i hi hne=>dE hne,bS,sumN_zero fun i hi=>dE fun e=>h (.inl ⟨i,hi,e⟩),sumN_zero fun i hi=>dE fun e=>h (.inr ⟨i,hi,e⟩)]at h1;omega
theorem Pm.piv{m n:Nat}{T:Tb}(P:Pm m n T){r q:Nat}(hr:r < m)(hq:q < n):Pm m n (piv T r q):=by
 intro f
 have e1:(fun i=>f ((Wg.piv T r q).sd i))=fun i=>if i=r then f (T.hd q)else f (T.sd i):=by
  funext i;show f (if i=r then _ else _)=_;split<;>rfl
 have e2:(fun c=>f ((Wg.piv T r q).hd c))=fun c=>if c=q then f (T.sd r)else f (T.hd c):=by
  funext c;show f (if c=q then _ else _)=_;split<;>rfl
 rw[e1,e2,eJ (f:=fun i=>f (T.sd i)) hr,eJ (f:=fun i=>f (T.hd i)) hq,<-P f];omega
noncomputable def val(n:Nat)(M:Int)(T:Tb)(i:Nat):Int:=M*T.ln i n+T.ln i (n+1)
noncomputable def pt(m n:Nat)(M:Int)(T:Tb)(k:Nat):Int:=sumN m fun i=>if T.sd i=k then val n M T i else 0
theorem mL{m n:Nat}{M:Int}{T:Tb}(P:Pm m n T){i:Nat}(hi:i < m):pt m n M T (T.sd i)=val n M T i:=by
 unfold pt;rw[sumN_one hi fun j a hne=>if_neg fun e=>hne (P.inj a hi e),if_pos rfl]
theorem mM{m n:Nat}{M:Int}{T:Tb}(P:Pm m n T){c:Nat}(hc:c < n):pt m n M T (T.hd c)=0:=by
 unfold pt;exact sumN_zero fun j a=>if_neg (P.disj a hc)
theorem qV{m n:Nat}{V R:Nat->Vec}{M:Int}{T T':Tb}(I:Inv m n V R T)(P:Pm m n T)(I':Inv m n V R T')(P':Pm m n T'){i:Nat}(hi:i < m):
 T'.bot*pt m n M T (T'.sd i)=(sumN n fun c=>T'.ln i c*pt m n M T (T'.hd c))+T.bot*val n M T' i:=by
 rw[I'.row (pt m n M T) (T.bot*M) T.bot (fun t ht=>?_) hi]
 . unfold val;grind
 . rw[P' fun k=>pt m n M T k*V k t,<-P fun k=>pt m n M T k*V k t]
   have e1:∀i,i < m->pt m n M T (T.sd i)*V (T.sd i) t=M*(T.ln i n*V (T.sd i) t)+T.ln i (n+1)*V (T.sd i) t:=by
    intro i hi;rw[mL P hi];unfold val;grind
   rw[sumN_congr e1,sumN_add,sumN_mul,sumN_zero (n:=n) (fun c hc=>by rw[mM P hc,Af]),I.ln n t (by omega) ht,I.ln (n+1) t (by omega) ht]
   have b:T.W V R n n t=R n t:=if_neg (by omega)
   have a:T.W V R n (n+1) t=R (n+1) t:=if_neg (by omega)
   rw[b,a];grind
theorem pV{f:Nat->Int}{k:Nat}:∀ {n:Nat},(∀i,i < n->f i<=0)->k < n->sumN n f<=f k:=by
 intro n h hk;have:=cH (f:=fun i=> -1*f i) (k:=k) (n:=n) (fun i hi=>by have:=h i hi;omega) hk
 rw[sumN_mul]at this;omega
structure Stp (m n:Nat) (M:Int) (T:Tb) (r q:Nat):Prop where
 hr:r < m
 hq:q < n
 sl:T.sd r < m
 neg:val n M T r < 0
 least:∀i,i < m->T.sd i < m->val n M T i < 0->T.sd r<=T.sd i
 pos:0 < T.ln r q
 head:∀c,c < n->0 < T.ln r c->T.hd q<=T.hd c
def side(m:Nat)(T:Tb)(k:Nat):Prop:=∃i,i < m/\T.sd i=k
theorem qJ{m n:Nat}{T:Tb}(P:Pm m n T){r q:Nat}(hr:r < m)(hq:q < n){k:Nat}:side m (piv T r q) k↔(k=T.hd q\/(side m T k/\k≠T.sd r)):=by
 constructor
 . rintro⟨i,hi,e⟩;have e':(if i=r then T.hd q else T.sd i)=k:=e;by_cases h:i=r
   . rw[if_pos h]at e';exact .inl e'.symm
   . rw[if_neg h]at e';refine .inr ⟨⟨i,hi,e'⟩,fun z=>h (P.inj hi hr (e'.trans z))⟩
 . rintro(e|⟨⟨i,hi,e⟩,hne⟩)
   . exact⟨r,hr,(if_pos rfl).trans e.symm⟩
   . exact⟨i,hi,(if_neg fun z=>hne (by rw[<-e,z])).trans e⟩
theorem yW{m n:Nat}{V R:Nat->Vec}{M:Int}{T T':Tb}(I:Inv m n V R T)(P:Pm m n T)(I':Inv m n V R T')(P':Pm m n T'){r q r' q':Nat}(S:Stp m n M T r q)(S':Stp m n M T' r' q')(e:T.sd r=T'.hd q')(ha:T'.sd r' < T.sd r)(hb:∀c,c < n->c≠q'->T'.hd c < T.sd r\/¬side m T (T'.hd c)):False:=by
 have f:∀k,k < T.sd r->0<=pt m n M T k:=by
  intro k hk;have a:k < m+n:=by have:=P.sd_lt S.hr;omega
  rcases P.cov a with⟨i,hi,e⟩|⟨c,hc,e⟩
  . rw[<-e,mL P hi];refine Classical.byContradiction fun h=>?_;have:=S.least i hi (by have:=S.sl;omega) (by omega)
    omega
  . rw[<-e,mM P hc];exact Int.le_refl _
 have h:=qV (M:=M) I P I' P' S'.hr;have h1:0<=T'.bot*pt m n M T (T'.sd r'):=Int.mul_nonneg (by have:=I'.pos;omega) (f _ ha)
 have h2:T.bot*val n M T' r' < 0:=Int.mul_neg_of_pos_of_neg I.pos S'.neg
 have h3:∀c,c < n->T'.ln r' c*pt m n M T (T'.hd c)<=0:=by
  intro c hc;by_cases b:c=q'
  . subst b;rw[<-e,mL P S.hr];exact Int.le_of_lt (Int.mul_neg_of_pos_of_neg S'.pos S.neg)
  . rcases hb c hc b with hl|hs
    . have hn:T'.ln r' c<=0:=by
       refine Classical.byContradiction fun z=>?_;have:=S'.head c hc (by omega)
       omega
      exact Int.mul_nonpos_of_nonpos_of_nonneg hn (f _ hl)
    . have:pt m n M T (T'.hd c)=0:=by
       rcases P.cov (P'.hd_lt hc)with h|⟨d,hd,e⟩
       . exact absurd h hs
       . rw[<-e,mM P hd]
      rw[this,Aq];exact Int.le_refl _
 have g:=pV h3 S'.hq;have j:=h3 q' S'.hq;omega
theorem kr{P:Nat->Prop}{a:Nat}(ha:P a):∀N:Nat,(∀k,P k->k < N)->∃g,P g/\∀k,P k->k<=g
 |0,h=>absurd (h a ha) (by omega)
 |N+1,h=>by
  by_cases z:P N
  . exact⟨N,z,fun k hk=>by have:=h k hk;omega⟩
  . refine kr ha N fun k hk=>?_;have:=h k hk;have:k≠N:=fun e=>z (e▸hk);omega
structure Rn (m n:Nat) (V R:Nat->Vec) (M:Int) (T:Nat->Tb) (r q:Nat->Nat) (J:Nat):Prop where
 inv:Inv m n V R (T 0)
 pm:Pm m n (T 0)
 st:∀j,j < J->Stp m n M (T j) (r j) (q j)
 nx:∀j,j < J->T (j+1)=piv (T j) (r j) (q j)
section
variable{m n:Nat}{V R:Nat->Vec}{M:Int}{T:Nat->Tb}{r q:Nat->Nat}{J:Nat}
theorem Rn.all(H:Rn m n V R M T r q J):∀j,j<=J->Inv m n V R (T j)/\Pm m n (T j)
 |0,_=>⟨H.inv,H.pm⟩
 |j+1,h=>by
  have⟨I,P⟩:=H.all j (by omega)
  have S:=H.st j (by omega)
  rw[H.nx j (by omega)]
  exact⟨piv_inv I S.hr S.hq (by have:=S.pos;omega),P.piv S.hr S.hq⟩
theorem Rn.side(H:Rn m n V R M T r q J){j k:Nat}(h:j < J):side m (T (j+1)) k↔(k=(T j).hd (q j)\/(side m (T j) k/\k≠(T j).sd (r j))):=by
 have S:=H.st j h;rw[H.nx j h];exact qJ (H.all j (by omega)).2 S.hr S.hq
theorem Rn.leaves(H:Rn m n V R M T r q J){k a:Nat}(ha:Wg.side m (T a) k):∀d,a+d<=J->¬Wg.side m (T (a+d)) k->∃j,j < J/\(T j).sd (r j)=k
 |0,_,h=>absurd ha h
 |d+1,hd,h=>by
  by_cases z:Wg.side m (T (a+d)) k
  . refine⟨a+d,by omega,?_⟩
    refine Classical.byContradiction fun hne=>h ?_;exact(H.side (j:=a+d) (by omega)).2 (.inr ⟨z,fun e=>hne e.symm⟩)
  . exact H.leaves ha d (by omega) z
theorem Rn.enters(H:Rn m n V R M T r q J){k a:Nat}(ha:¬Wg.side m (T a) k):∀d,a+d<=J->Wg.side m (T (a+d)) k->∃j,j < J/\(T j).hd (q j)=k
 |0,_,h=>absurd h ha
 |d+1,hd,h=>by
  by_cases z:Wg.side m (T (a+d)) k
  . exact H.enters ha d (by omega) z
  . rcases(H.side (j:=a+d) (by omega)).1 h with e|⟨b,_⟩
    . exact⟨a+d,by omega,e.symm⟩
    . exact absurd b z
theorem Rn.const(H:Rn m n V R M T r q J){k:Nat}(hk:¬∃j,j < J/\((T j).sd (r j)=k\/(T j).hd (q j)=k)):∀j,j<=J->(Wg.side m (T j) k↔Wg.side m (T 0) k)
 |0,_=>Iff.rfl
 |j+1,h=>by
  rw[<-H.const hk j (by omega),H.side (j:=j) (by omega)]
  constructor
  . rintro(e|⟨z,_⟩)
    . exact absurd ⟨j,by omega, .inr e.symm⟩ hk
    . exact z
  . exact fun z=> .inr ⟨z,fun e=>hk ⟨j,by omega, .inl e.symm⟩⟩
theorem Rn.no_circle(H:Rn m n V R M T r q J)(hJ:0 < J)(same:∀k,Wg.side m (T 0) k↔Wg.side m (T J) k):False:=by
 have w:∀j,j < J->Wg.side m (T j) ((T j).sd (r j)):=fun j h=>⟨r j,(H.st j h).hr,rfl⟩;have en:∀j,j < J->¬Wg.side m (T j) ((T j).hd (q j)):=fun j h ⟨i,hi,e⟩=>(H.all j (by omega)).2.disj hi (H.st j h).hq e
 have ne:∀j,j < J->(T j).sd (r j)≠(T j).hd (q j):=fun j h=>(H.all j (by omega)).2.disj (H.st j h).hr (H.st j h).hq
 obtain⟨g,hg,p⟩:=kr (P:=fun k=>∃j,j < J/\((T j).sd (r j)=k\/(T j).hd (q j)=k)) ⟨0,hJ, .inl rfl⟩ (m+n) (by
  rintro k ⟨j,b,e|e⟩
  . rw[<-e];exact(H.all j (by omega)).2.sd_lt (H.st j b).hr
  . rw[<-e];exact(H.all j (by omega)).2.hd_lt (H.st j b).hq)
 have o:(∃j,j < J/\(T j).sd (r j)=g)/\∃j,j < J/\(T j).hd (q j)=g:=by
  obtain⟨j,b,e|e⟩:=hg
  . refine⟨⟨j,b,e⟩,?_⟩;have s1:Wg.side m (T j) g:=e▸w j b
    have t:¬Wg.side m (T (j+1)) g:=by
     rw[H.side b];rintro(z|⟨_,z⟩)
     . exact ne j b (e.trans z)
     . exact z e.symm
    by_cases z:Wg.side m (T 0) g
    . have:=(same g).1 z;obtain⟨d,rfl⟩:∃d,J=j+1+d:=⟨J - j - 1,by omega⟩
      exact H.enters t d (z4 _) this
    . exact H.enters (a:=0) z j (by omega) (by rw[Nat.zero_add];exact s1)
  . refine⟨?_,⟨j,b,e⟩⟩;have s1:¬Wg.side m (T j) g:=e▸en j b;have t:Wg.side m (T (j+1)) g:=(H.side b).2 (.inl e.symm);by_cases z:Wg.side m (T 0) g
    . exact H.leaves (a:=0) z j (by omega) (by rw[Nat.zero_add];exact s1)
    . have:¬Wg.side m (T J) g:=fun y=>z ((same g).2 y);obtain⟨d,rfl⟩:∃d,J=j+1+d:=⟨J - j - 1,by omega⟩
      exact H.leaves t d (z4 _) this
 obtain⟨⟨u,h1,e1⟩,⟨l,h2,e2⟩⟩:=o;have v:=H.all u (by omega)
 have s:=H.all l (by omega)
 refine yW v.1 v.2 s.1 s.2 (H.st u h1) (H.st l h2) (e1.trans e2.symm) ?_ ?_
 . have:=p _ ⟨l,h2, .inl rfl⟩;have:=ne l h2;omega
 . intro c hc hne;have x:(T l).hd c≠g:=fun e=>hne (s.2.injh hc (H.st l h2).hq (e.trans e2.symm));by_cases f:∃j,j < J/\((T j).sd (r j)=(T l).hd c\/(T j).hd (q j)=(T l).hd c)
   . have:=p _ f;exact .inl (by omega)
   . refine .inr fun z=>?_;have:=(H.const f l (by omega)).2 ((H.const f u (by omega)).1 z)
     obtain⟨i,hi,e⟩:=this;exact s.2.disj hi hc e
end
theorem vL:∀(K J:Nat) (f:Nat->Nat),(∀i,i<=J->f i < K)->(∀i j,i<=J->j<=J->f i=f j->i=j)->J < K
 |0,J,f,h,_=>absurd (h 0 (by omega)) (by omega)
 |K+1,0,f,_,_=>by omega
 |K+1,J+1,f,h,inj=>by
  have:=vL K J (fun i=>if f i=K then f (J+1)else f i) (fun i hi=>by
   by_cases e:f i=K
   . have h1:=h (J+1) (by omega)
     have h2:f (J+1)≠K:=fun z=>by have:=inj i (J+1) (by omega) (by omega) (e.trans z.symm);omega
     simp only[e,if_true];omega
   . have:=h i (by omega)
     simp only[e,if_false]
     omega) (fun i j hi c e=>by
   by_cases a:f i=K
   . by_cases b:f j=K
     . exact inj i j (by omega) (by omega) (a.trans b.symm)
     . simp only[a,b,if_true,if_false]at e;have:=inj _ _ (by omega) (by omega) e
       omega
   . by_cases b:f j=K
     . simp only[a,b,if_true,if_false]at e;have:=inj _ _ (by omega) (by omega) e
       omega
     . simp only[a,b,if_false]at e
       exact inj _ _ (by omega) (by omega) e)
  omega
open Classical in
noncomputable def code(S:Nat->Prop):Nat->Nat
 |0=>0
 |k+1=>2*code S k+if S k then 1 else 0
theorem nX(S:Nat->Prop):∀N,code S N < 2^N
 |0=>by rw[code];decide
 |N+1=>by
  have:=nX S N;rw[code,Nat.pow_succ];split<;>omega
theorem ie{S S':Nat->Prop}:∀N,code S N=code S' N->∀k,k < N->(S k↔S' k)
 |0,_,k,hk=>by omega
 |N+1,h,k,hk=>by
  rw[code,code]at h;by_cases a:S N
  . by_cases b:S' N
    . rw[if_pos a,if_pos b]at h;by_cases e:k=N
      . subst e;exact⟨fun _=>b,fun _=>a⟩
      . exact ie N (by omega) k (by omega)
    . rw[if_pos a,if_neg b]at h;omega
  . by_cases b:S' N
    . rw[if_neg a,if_pos b]at h;omega
    . rw[if_neg a,if_neg b]at h;by_cases e:k=N
      . subst e;exact⟨fun z=>absurd z a,fun z=>absurd z b⟩
      . exact ie N (by omega) k (by omega)
section
variable{m n:Nat}{V R:Nat->Vec}{M:Int}{T:Nat->Tb}{r q:Nat->Nat}{J:Nat}
theorem Rn.part(H:Rn m n V R M T r q J){i d:Nat}(h:i+d<=J):Rn m n V R M (fun k=>T (i+k)) (fun k=>r (i+k)) (fun k=>q (i+k)) d:=
 ⟨(H.all i (by omega)).1,(H.all i (by omega)).2,fun j a=>H.st (i+j) (by omega),fun j a=>H.nx (i+j) (by omega)⟩
theorem Rn.no_twice(H:Rn m n V R M T r q J){i j:Nat}(hij:i < j)(hj:j<=J)(e:code (Wg.side m (T i)) (m+n)=code (Wg.side m (T j)) (m+n)):False:=by
 obtain⟨d,rfl⟩:∃d,j=i+d:=⟨j - i,by omega⟩
 refine(H.part hj).no_circle (by omega) fun k=>?_
 show Wg.side m (T i) k↔Wg.side m (T (i+d)) k;by_cases hk:k < m+n
 . exact ie (m+n) e k hk
 . constructor
   . rintro⟨a,ha,z⟩;have:=(H.all i (by omega)).2.sd_lt ha
     omega
   . rintro⟨a,ha,z⟩;have:=(H.all (i+d) hj).2.sd_lt ha;omega
theorem Rn.few(H:Rn m n V R M T r q J):J < 2^(m+n):=by
 refine vL (2^(m+n)) J (fun i=>code (Wg.side m (T i)) (m+n)) (fun i hi=>nX _ _) fun i j hi a e=>?_;rcases Nat.lt_trichotomy i j with h|h|h
 . exact(H.no_twice h a e).elim
 . exact h
 . exact(H.no_twice h hi e.symm).elim
end
def Stl(m n k:Nat)(T:Tb):Prop:=∀c,c < k->c < n->m<=T.hd c->∀i,i < m->T.sd i < m->T.ln i c=0
theorem Stl.piv{m n k:Nat}{V R:Nat->Vec}{T:Tb}(I:Inv m n V R T)(h:Stl m n k T){r q:Nat}(hr:r < m)(hq:q < n)(hs:T.sd r < m)(hp:T.ln r q≠0):Stl m n k (piv T r q):=by
 intro c hc hn hh i hi d;have a:m<=if c=q then T.sd r else T.hd c:=hh;have b:(if i=r then T.hd q else T.sd i) < m:=d;have e:c≠q:=fun e=>by rw[if_pos e]at a;omega
 rw[if_neg e]at a;show(if i=r then(if c=q then _ else _)else if c=q then _ else T.num r q i c / T.bot)=0;rw[if_neg e,if_neg e];have z:=h c hc hn a r hr hs;by_cases ei:i=r
 . rw[if_pos ei,z,Aq]
 . rw[if_neg ei]at b ⊢;have f:=h c hc hn a i hi b;unfold Tb.num;rw[z,f];simp
theorem kB:∀(m:Nat) (B:Nat->Vec),(∀k c,k < m->c < m->B k c=if k=c then 1 else 0)->det m B=1
 |0,_,_=>rfl
 |m+1,B,h=>by
  rw[det,sumN_one (k:=0) (by omega)]
  . rw[h 0 0 (by omega) (by omega),if_pos rfl,kB m (skip 0 B)]
    . rfl
    . intro k c hk hc;unfold skip;rw[if_neg (by omega),h (k+1) (c+1) (by omega) (by omega)]
      by_cases e:k=c
      . rw[if_pos e,if_pos (by omega)]
      . rw[if_neg e,if_neg (by omega)]
  . intro j a hne;rw[h j 0 a (by omega),if_neg hne,Aq,Af]
theorem gD{f:Nat->Int}{m:Nat}:∀n:Nat,sumN m f+(sumN n fun c=>f (m+c))=sumN (m+n) f
 |0=>by
  show sumN m f+0=sumN m f;omega
 |n+1=>by
  show sumN m f+((sumN n fun c=>f (m+c))+f (m+n))=sumN (m+n) f+f (m+n);rw[<-gD n];omega
def tb0(m:Nat)(L:Nat->Nat->Int):Tb:=⟨1,L,fun i=>i,fun c=>m+c⟩
noncomputable def V0(m:Nat)(L:Nat->Nat->Int):Nat->Vec:=fun k t=>if k < m then(if k=t then 1 else 0)else -L t (k - m)
def R0(L:Nat->Nat->Int):Nat->Vec:=fun c t=>L t c
theorem inv0{m n:Nat}{L:Nat->Nat->Int}:Inv m n (V0 m L) (R0 L) (tb0 m L):=by
 refine⟨(by decide:(0:Int) < 1),?_,?_⟩
 . rw[kB m _ fun k c hk hc=>by
    show(if k < m then(if k=c then(1:Int)else 0)else _)=_
    rw[if_pos hk]]
   rfl
 . intro c t hc ht
   rw[sumN_one (k:=t) ht fun i hi hne=>by
    show L i c*(if i < m then(if i=t then(1:Int)else 0)else _)=0
    rw[if_pos hi,if_neg hne,Aq]]
   show L t c*(if t < m then(if t=t then(1:Int)else 0)else _)=1*(if c < n then -(if m+c < m then(if m+c=t then(1:Int)else 0)else -L t (m+c - m))else L t c);rw[if_pos ht,if_pos rfl,if_neg (by omega:¬m+c < m),Nat.add_sub_cancel_left]
   split<;>omega
theorem pm0{m n:Nat}{L:Nat->Nat->Int}:Pm m n (tb0 m L):=fun f=>gD n
theorem lex_neg{u v M:Int}(h:v.natAbs < M.natAbs)(hM:0 < M):(u < 0\/(u=0/\v < 0))↔M*u+v < 0:=by
 constructor
 . rintro(z|⟨z,y⟩)
   . have:M*u<=M* -1:=Int.mul_le_mul_of_nonneg_left (by omega) (by omega)
     omega
   . rw[z];omega
 . intro z;rcases Int.lt_trichotomy u 0 with y|y|y
   . exact .inl y
   . subst y;exact .inr ⟨rfl,by omega⟩
   . have:M*1<=M*u:=Int.mul_le_mul_of_nonneg_left (by omega) (by omega)
     omega
noncomputable def sol(m n:Nat)(L:Nat->Nat->Int)(y:Nat->Int)(b e:Int):Nat->Int:=
 fun k=>if k < m then(sumN n fun c=>L k c*y c)+b*L k n+e*L k (n+1)else y (k - m)
theorem uk{m n:Nat}{L:Nat->Nat->Int}{T:Tb}(I:Inv m n (V0 m L) (R0 L) T)(P:Pm m n T)(y:Nat->Int)(b e:Int){i:Nat}(hi:i < m):
 T.bot*sol m n L y b e (T.sd i)=(sumN n fun c=>T.ln i c*sol m n L y b e (T.hd c))+b*T.ln i n+e*T.ln i (n+1):=by
 refine I.row (sol m n L y b e) b e (fun t ht=>?_) hi
 rw[P fun k=>sol m n L y b e k*V0 m L k t,<-gD n,sumN_one (k:=t) ht fun k hk hne=>by
  show _*(if k < m then(if k=t then(1:Int)else 0)else _)=0
  rw[if_pos hk,if_neg hne,Aq]]
 have e1:∀c,c < n->sol m n L y b e (m+c)*V0 m L (m+c) t= -1*(L t c*y c):=by
  intro c hc;show(if m+c < m then _ else y (m+c - m))*(if m+c < m then _ else -L t (m+c - m))=_;rw[if_neg (by omega),if_neg (by omega),Nat.add_sub_cancel_left]
  grind
 rw[sumN_congr e1,sumN_mul];show(if t < m then _ else _)*(if t < m then(if t=t then(1:Int)else 0)else _)+_=b*L t n+e*L t (n+1);rw[if_pos ht,if_pos ht,if_pos rfl];omega
noncomputable def wt(n:Nat)(T:Tb)(i k:Nat):Int:=(if k=T.sd i then T.bot else 0)+sumN n fun c=>if k=T.hd c then -T.ln i c else 0
section
variable{m n:Nat}{L:Nat->Nat->Int}{T:Tb}
theorem iC{N j:Nat}{a:Int}{s:Nat->Int}(h:j < N):(sumN N fun k=>(if k=j then a else 0)*s k)=a*s j:=by
 rw[sumN_one (k:=j) h fun k hk hne=>by rw[if_neg hne,Af],if_pos rfl]
theorem wt_sum(P:Pm m n T)(S:Stl m n n T){i:Nat}(hi:i < m)(hs:T.sd i < m)(s:Nat->Int):
 (sumN m fun k=>wt n T i k*s k)=T.bot*s (T.sd i)+sumN n fun c=> -T.ln i c*s (T.hd c):=by
 have e1:∀k,k < m->wt n T i k*s k=(if k=T.sd i then T.bot else 0)*s k+sumN n fun c=>(if k=T.hd c then -T.ln i c else 0)*s k:=by
  intro k hk;unfold wt;rw[Int.add_mul,sumN_mulr]
 rw[sumN_congr e1,sumN_add,iC hs,fk];congr 1;refine sumN_congr fun c hc=>?_;by_cases h:T.hd c < m
 . exact iC h
 . rw[S c hc hc (by omega) i hi hs,sumN_zero fun k hk=>by rw[if_neg (by omega),Af]]
   rw[Int.neg_zero,Af]
theorem iX(I:Inv m n (V0 m L) (R0 L) T)(P:Pm m n T)(S:Stl m n n T){i:Nat}(hi:i < m)(hs:T.sd i < m)(y:Nat->Int)(b e:Int):
 (sumN m fun k=>wt n T i k*sol m n L y b e k)=b*T.ln i n+e*T.ln i (n+1):=by
 rw[wt_sum P S hi hs,uk I P y b e hi]
 have:(sumN n fun c=> -T.ln i c*sol m n L y b e (T.hd c))= -1*sumN n fun c=>T.ln i c*sol m n L y b e (T.hd c):=by
  rw[<-sumN_mul];exact sumN_congr fun c hc=>by grind
 rw[this];omega
theorem wt_term(I:Inv m n (V0 m L) (R0 L) T)(P:Pm m n T)(S:Stl m n n T){i:Nat}(hi:i < m)(hs:T.sd i < m){c:Nat}(hc:c < n):(sumN m fun k=>wt n T i k*L k c)=0:=by
 have h:=iX I P S hi hs (ind c) 0 0;rw[Af,Af]at h;rw[<-h.trans (by omega:(0:Int)+0=0)]
 refine sumN_congr fun k hk=>?_;show _=_*(if k < m then _ else _);rw[if_pos hk,sumN_one (k:=c) hc fun d hd hne=>by rw[dE hne,Aq],bS]
 grind
theorem wt_last(I:Inv m n (V0 m L) (R0 L) T)(P:Pm m n T)(S:Stl m n n T){i:Nat}(hi:i < m)(hs:T.sd i < m):(sumN m fun k=>wt n T i k*L k n)=T.ln i n/\(sumN m fun k=>wt n T i k*L k (n+1))=T.ln i (n+1):=by
 have z:∀k,(sumN n fun c=>L k c*(0:Int))=0:=fun k=>sumN_zero fun c hc=>Aq _;constructor
 . have h:=iX I P S hi hs (fun _=>0) 1 0;rw[<-(h.trans (by omega:_=T.ln i n))]
   refine sumN_congr fun k hk=>?_;show _=_*(if k < m then _ else _);rw[if_pos hk,z];grind
 . have h:=iX I P S hi hs (fun _=>0) 0 1;rw[<-(h.trans (by omega:_=T.ln i (n+1)))]
   refine sumN_congr fun k hk=>?_;show _=_*(if k < m then _ else _);rw[if_pos hk,z];grind
theorem pt_meets(I:Inv m n (V0 m L) (R0 L) T)(P:Pm m n T){K:Int}(h:∀i,i < m->T.sd i < m->0<=val n K T i){k:Nat}(hk:k < m):
 0<=(sumN n fun c=>L k c*pt m n K T (m+c))+T.bot*(K*L k n+L k (n+1)):=by
 have r:=qV (M:=K) I P (inv0 (m:=m) (n:=n) (L:=L)) pm0 hk;have e:(1:Int)*pt m n K T k=(sumN n fun c=>L k c*pt m n K T (m+c))+T.bot*(K*L k n+L k (n+1)):=r;rw[<-e,Int.one_mul];rcases P.cov (k:=k) (by omega)with⟨i,hi,z⟩|⟨c,hc,z⟩
 . rw[<-z,mL P hi];exact h i hi (by omega)
 . rw[<-z,mM P hc];exact Int.le_refl _
theorem parts_ok{u v K:Int}(h:0 < u)(hK:-(v / u)<=K):0<=K*u+v:=by
 have h1:=Int.mul_ediv_add_emod v u;have h2:=Av v (by omega:u≠0)
 have h3:0<=(K+v / u)*u:=Int.mul_nonneg (by omega) (by omega)
 rw[Int.add_mul,AM (v / u)]at h3;omega
end
def ls{α:Type}(n:Nat)(f:Nat->α):List α:=(List.range n).map f
theorem ls_len{α:Type}{n:Nat}{f:Nat->α}:(ls n f).length=n:=by unfold ls;rw[yY,zY]
theorem ls_at{α:Type}{n i:Nat}{f:Nat->α}(h:i < n):(ls n f)[i]?=some (f i):=by
 unfold ls;rw[z7,List.getElem?_range h];rfl
theorem ls_congr{α:Type}{n:Nat}{f g:Nat->α}(h:∀i,i < n->f i=g i):ls n f=ls n g:=List.map_congr_left fun i hi=>h i (zZ.1 hi)
theorem ss{α β:Type}{n:Nat}{f:Nat->α}{g:α->β}:(ls n f).map g=ls n fun i=>g (f i):=by
 unfold ls;rw[AG];rfl
theorem xj{α β γ:Type}{n:Nat}{f:Nat->α}{g:Nat->β}{h:α->β->γ}:List.zipWith h (ls n f) (ls n g)=ls n fun i=>h (f i) (g i):=by
 unfold ls;rw[List.zipWith_map,List.zipWith_self]
theorem jo{α:Type}{n q:Nat}{f:Nat->α}{a:α}:(ls n f).set q a=ls n fun i=>if i=q then a else f i:=by
 refine AO fun i=>?_;rw[List.getElem?_set,ls_len];by_cases hi:i < n
 . rw[ls_at hi,ls_at hi];by_cases e:q=i
   . subst e;rw[if_pos rfl,if_pos hi,if_pos rfl]
   . rw[if_neg e,if_neg fun z=>e z.symm]
 . have o:∀g:Nat->α,(ls n g)[i]?=none:=fun g=>A8 (by rw[ls_len];omega)
   rw[o,o];by_cases e:q=i
   . subst e;rw[if_pos rfl,if_neg hi]
   . rw[if_neg e]
theorem turned0{n r q i:Nat}{T:Tb}(hi:i≠r)(h:sg (T.ln r q)*T.ln i q=0):((ls (n+2) (T.ln i)).map fun x=>x*((T.ln r q).natAbs:Int) / T.bot)=ls (n+2) ((piv T r q).ln i):=by
 rw[ss];refine ls_congr fun c hc=>?_;show _=if i=r then _ else if c=q then _ else T.num r q i c / T.bot;rw[if_neg hi];by_cases e:c=q
 . subst e;rw[if_pos rfl,h]
   have hz:T.ln i c=0:=by
    have:=yn (T.ln r c);have h2:sg (T.ln r c)*(sg (T.ln r c)*T.ln i c)=0:=by rw[h,Aq]
    rw[<-Int.mul_assoc,this,Int.one_mul]at h2;exact h2
   rw[hz,Af,Int.zero_ediv]
 . rw[if_neg e];unfold Tb.num;rw[h,Af,Int.sub_zero]
theorem turned1{n r q i:Nat}{T:Tb}(hi:i≠r):(List.zipWith (fun x y=>(x*((T.ln r q).natAbs:Int) - sg (T.ln r q)*T.ln i q*y) / T.bot) (ls (n+2) (T.ln i)) (ls (n+2) (T.ln r))).set q (sg (T.ln r q)*T.ln i q)=ls (n+2) ((piv T r q).ln i):=by
 rw[xj,jo];refine ls_congr fun c hc=>?_;show _=if i=r then _ else if c=q then _ else T.num r q i c / T.bot;rw[if_neg hi];rfl
theorem turnedR{n r q:Nat}{T:Tb}:((ls (n+2) (T.ln r)).map fun x=> -sg (T.ln r q)*x).set q (sg (T.ln r q)*T.bot)=ls (n+2) ((piv T r q).ln r):=by
 rw[ss,jo];refine ls_congr fun c hc=>?_;show _=if r=r then(if c=q then _ else _)else _;rw[if_pos rfl]
theorem piv_sides{m r q:Nat}{T:Tb}:(ls m T.sd).set r (T.hd q)=ls m (piv T r q).sd:=by
 rw[jo];rfl
theorem piv_heads{n r q:Nat}{T:Tb}:(ls n T.hd).set q (T.sd r)=ls n (piv T r q).hd:=by
 rw[jo];rfl
theorem Stl.next{m n k:Nat}{T:Tb}(h:Stl m n k T)(hk:∀i,i < m->T.sd i < m->T.ln i k=0):Stl m n (k+1) T:=by
 intro c hc hn hh i hi hs;by_cases e:c=k
 . subst e;exact hk i hi hs
 . exact h c (by omega) hn hh i hi hs
theorem Stl.turn{m n k:Nat}{V R:Nat->Vec}{T:Tb}(I:Inv m n V R T)(h:Stl m n k T){r:Nat}(hr:r < m)(hk:k < n)(hs:T.sd r < m)(hp:T.ln r k≠0):Stl m n (k+1) (Wg.piv T r k):=by
 intro c hc hn hh i hi a;by_cases e:c=k
 . subst e;have:m<=if c=c then T.sd r else T.hd c:=hh;rw[if_pos rfl]at this;omega
 . exact Stl.piv I h hr hk hs hp c (by omega) hn hh i hi a
end Wg
namespace K39
open PySem L2 Mth Tre Wd Su Tw Fm
theorem c9{X:Cx}{K:PySem.W.Frag}{e:Expr}{f:Str}{pos:Pos}{ta:TE}(hK:X.K=K)(he:PE X e ta)(hb:attributeBase e f X.env (eval e X.env)=eval e X.env):PE X (.Attribute e f pos) (tFld K ta f):=by
 subst hK;exact aN he hb
theorem fD{σ:L2.St}{H:Hp}{A B:Hp->Prop}(h:A H):cY σ H fun b H5=>if b=true then A H5 else B H5:=by
 show if true=true then A H else B H;rw[if_pos rfl];exact h
structure Tk (K:PySem.W.Frag) (C:Addr):Prop where
 cls:Cls K C
 nt:NoAttr K C "terms"
 ns:NoAttr K C "scales"
 nl:NoAttr K C "lines"
 nb:NoAttr K C "bottom"
 nd:NoAttr K C "sides"
 nh:NoAttr K C "heads"
structure TA where
 C:Addr
 a:Addr
 dx:Addr
 pt:Addr
 psc:Addr
 pss:Addr
 ph:Addr
noncomputable def flds(D:TA)(pl:Addr)(b:Int):List (Str×V):= [(Str.ofString "terms", .ref D.pt),(Str.ofString "scales", .ref D.psc),(Str.ofString "lines", .ref pl),(Str.ofString "bottom", .int b),(Str.ofString "sides", .ref D.pss),(Str.ofString "heads", .ref D.ph)]
def Rws(H:Hp)(D:TA)(ls:List V)(m:Nat)(f:Nat->List Int):Prop:=ls.length=m/\∀i,i < m->∃q,ls[i]?=some (.ref q)/\H q=some (.lst ((f i).map V.int))/\q≠D.pss/\q≠D.ph
structure Tab (D:TA) (m n:Nat) (scs:List Int) (us:List Tr) (ws:List V) (pl:Addr) (ls:List V) (T:Wg.Tb) (H:Hp):Prop where
 ob:H D.a=some (.ins D.C D.dx (flds D pl T.bot))
 tm:H D.pt=some (.lst ws)
 tt:TrsAt H ws us
 ul:us.length=n
 sc:H D.psc=some (.lst (scs.map V.int))
 sl:scs.length=m
 li:H pl=some (.lst ls)
 ro:Rws H D ls m fun i=>Wg.ls (n+2) (T.ln i)
 sd:H D.pss=some (.lst (nv (Wg.ls m T.sd)))
 hd:H D.ph=some (.lst (nv (Wg.ls n T.hd)))
 n1:D.pss≠D.pt
 n2:D.pss≠D.psc
 n3:D.pss≠D.ph
 n4:D.pss≠pl
 n5:D.ph≠D.pt
 n6:D.ph≠D.psc
 n7:D.ph≠pl
 m64:m<=64
 n64:n<=64
theorem Rws.keep{H H':Hp}{D:TA}{ls:List V}{m:Nat}{f:Nat->List Int}(k:∀q,q≠D.pss->q≠D.ph->∀xs,H q=some (.lst xs)->H' q=some (.lst xs))(h:Rws H D ls m f):Rws H' D ls m f:=by
 refine⟨h.1,fun i hi=>?_⟩;obtain⟨q,a,b,c,d⟩:=h.2 i hi;exact⟨q,a,k q c d _ b,c,d⟩
theorem Tab.same{D:TA}{m n:Nat}{scs:List Int}{us:List Tr}{ws:List V}{pl:Addr}{ls:List V}{T:Wg.Tb}{H H':Hp}(s:Same H H')(h:Tab D m n scs us ws pl ls T H):Tab D m n scs us ws pl ls T H':=
 ⟨s _ _ h.ob,s _ _ h.tm,h.tt.mono (Kd.of_same s),h.ul,s _ _ h.sc,h.sl,s _ _ h.li,h.ro.keep fun q _ _ xs e=>s _ _ e,s _ _ h.sd,s _ _ h.hd,h.n1,h.n2,h.n3,h.n4,h.n5,h.n6,h.n7,h.m64,h.n64⟩
theorem Tab.butT{T0:Addr}{ps:Array Value}{D:TA}{m n:Nat}{scs:List Int}{us:List Tr}{ws:List V}{pl:Addr}{ls:List V}{T:Wg.Tb}{H H':Hp}(hT:H T0=some (.tbl ps))(b:ButT T0 H H')(h:Tab D m n scs us ws pl ls T H):Tab D m n scs us ws pl ls T H':=by
 have k:∀ {a:Addr} {o:HO},H a=some o->(∀p,o≠ .tbl p)->H' a=some o:=fun{a o} e q=>b _ _ (fun z=>by rw[z,hT]at e;exact q _ (ze e).symm) e
 have c:∀ {a:Addr} {xs:List V},H a=some (.lst xs)->H' a=some (.lst xs):=fun e=>k e (by intro p z;cases z)
 have kd:Kd H H':=⟨fun a xs e=>k e (by intro p z;cases z),fun a xs e=>⟨xs,c e⟩⟩
 exact⟨k h.ob (by intro p z;cases z),c h.tm,h.tt.mono kd,h.ul,c h.sc,h.sl,c h.li,h.ro.keep fun q _ _ xs e=>c e,c h.sd,c h.hd,h.n1,h.n2,h.n3,h.n4,h.n5,h.n6,h.n7,h.m64,h.n64⟩
theorem iH{m i:Nat}{f:Nat->Nat}(h:i < m):(nv (Wg.ls m f))[i]?=some (.int (f i:Nat)):=by
 unfold nv;rw[z7,Wg.ls_at h];rfl
theorem bQ{m:Nat}{f:Nat->Nat}:(nv (Wg.ls m f)).length=m:=by
 unfold nv;rw[yY,Wg.ls_len]
theorem fQ{n c:Nat}{f:Nat->Int}(h:c < n):((Wg.ls n f).map V.int)[c]?=some (.int (f c)):=by
 rw[z7,Wg.ls_at h];rfl
noncomputable def slk(m:Nat)(T:Wg.Tb):List Nat:=(List.range m).filter fun i=>decide (T.sd i < m)
theorem slk_mem{m:Nat}{T:Wg.Tb}{i:Nat}:i∈slk m T↔i < m/\T.sd i < m:=by
 unfold slk;rw[Aa,zZ,decide_eq_true_iff]
section
variable{P:Program}{w:World}{K:PySem.W.Frag}{mg:Str->Option Value}{base:Heap}{T0:Addr}
def qF:Sp:=fun vs H Q _=>∃(D:TA) (m n:Nat) (scs:List Int) (us:List Tr) (ws:List V) (pl:Addr) (ls:List V) (T:Wg.Tb) (k:Int),vs= [.ref D.a, .int k]/\Tk K D.C/\Tab D m n scs us ws pl ls T H/\Q (.bl (decide (k < (m:Int)))) H
theorem yx:FnScope ["table","number"] ["table","number"] (ah sIsl):= .of
theorem wY{f:Addr}{fd:FuncData}(F:Fun K "is_slack" "is_slack" sIsl f fd)(B:Blt mg):FnOk P w K mg base CX0 1 f fd ["table","number"] (qF (K:=K)):=by
 refine F.okb yx fun vs H Q E h=>?_;obtain⟨D,m,n,scs,us,ws,pl,ls,T,k,rfl,hk,b,q⟩:=h;refine⟨rfl,fun c A outer s hr=>?_⟩;refine⟨_,ai (az (cf iG (pv 1) (av ar rfl B.le PySem.boot_len (a0 (aN (pv 0) rfl) aa)) (ay _))),?_⟩;refine⟨_,rfl,_,rfl,D.a,D.C,D.dx,_,_,rfl,b.ob,hk.cls,hk.ns,rfl,D.psc,_,rfl, .inl (SqL.of b.sc),k,_,rfl,rfl,?_⟩;rw[yY,b.sl];exact q
def jS:Sp:=fun vs H Q _=>∃(D:TA) (m n:Nat) (scs:List Int) (us:List Tr) (ws:List V) (pl:Addr) (ls:List V) (T:Wg.Tb),vs= [.ref D.a]/\Tk K D.C/\Tab D m n scs us ws pl ls T H/\∀l H',H l=none->Same H H'->H' l=some (.lst (nv (slk m T)))->Q (.ref l) H'
theorem yt:FnScope ["table"] ["table"] (ah sSll):= .of
theorem wN{f:Addr}{fd:FuncData}(F:Fun K "slack_lines" "slack_lines" sSll f fd)(B:Blt mg)(zI:Cl P w K mg base 1 "is_slack" ["table","number"] (qF (K:=K))):
 FnOk P w K mg base CX0 2 f fd ["table"] (jS (K:=K)):=by
 refine F.okb yt fun vs H Q E h=>?_;refine hZq fun q_ e_=>?_;obtain⟨D,m,n,scs,us,ws,pl,ls,T,rfl,hk,c,q⟩:=h;subst e_;refine⟨rfl,fun t A outer s hr=>?_⟩;have b:(["at","side","table"]:List Str).Nodup:=by decide +kernel
 refine⟨_,ai (az (aQ (NC:= ["at","side","table"]) (mp:= [none,none,some 0]) (g:=gTup K 2 (be (aJ 0) (be (aJ 1) gNil))) rfl (uA rfl B.en (a0 (aN (pv 0) rfl) aa)) (fun _ _ _ _ _=>bh (n:=2) rfl (aq (pgA 0 b) (aq (pgA 1 b) aV)))
  (fun _ _ _ _ _=>cz (cD (ak zI hr (a0 (pv 2) (a0 (pv 1) aa))))) (fun _ _ _ _ _=>pv 0))),?_⟩
 have r:(20000:Nat)<=sizeLine:=by decide +kernel
 have m64:=c.m64;refine lV (a:=D.pss) (xs:=nv (Wg.ls m T.sd)) (fun Q q=>⟨_,rfl,D.a,D.C,D.dx,_,_,rfl,c.ob,hk.cls,hk.nd,rfl,q⟩) (SqL.of c.sd) fun L l=>?_;refine⟨fun j acc H'=>Same H H'/\H' L=some (.lst acc)/\acc=nv ((List.range j).filter fun i=>decide (T.sd i < m)),⟨ae l,a8,rfl⟩,fun j acc H' p=>SqL.of (p.1 _ _ c.sd),?_,?_⟩
 . rintro i u x acc H' hi _ ⟨d,k,rfl⟩ ex v;rw[bQ]at hi;rw[iH hi]at ex;cases ex;have e:=ae (o:= .tup [.int i, .int (T.sd i:Nat)]) v;refine⟨u,_,rfl,SqT.of a8,rfl,_,_,rfl,_,_,rfl,rfl,ext2,?_⟩;refine⟨_,rfl,_,rfl,D,m,n,scs,us,ws,pl,ls,T,_,rfl,hk,c.same (d.trans e),_,rfl,?_⟩
   have al:(nv ((List.range i).filter fun i=>decide (T.sd i < m))).length<=i:=by
    unfold nv;rw[yY];exact zh (zR _ _) (by rw[zY];exact z4 _)
   by_cases z:T.sd i < m
   . rw[decide_eq_true (show((T.sd i:Nat):Int) < (m:Int)by omega)]
     refine iteT ?_;refine⟨_,rfl,CompN.mk (by rw[bQ];exact hi) (by omega) (e _ _ k) ⟨aH l (d.trans e),a8,?_⟩⟩
     rw[A9,A4];simp[nv,z]
   . rw[decide_eq_false (show¬((T.sd i:Nat):Int) < (m:Int)by omega)]
     refine iteF ?_;refine CompS.mk (by rw[bQ];exact hi) ⟨d.trans e,e _ _ k,?_⟩
     rw[A9,A4];simp[nv,z]
 . rintro acc H2 ⟨d,k,rfl⟩;rw[bQ]at k;exact q L H2 l d k
noncomputable def tdF(xs ys:List Int)(q:Nat)(b0 B p r:Int):List Int:=
 if Wg.sg p*r=0 then xs.map fun x=>x*B / b0 else(List.zipWith (fun x y=>(x*B - Wg.sg p*r*y) / b0) xs ys).set q (Wg.sg p*r)
def qh:Sp:=fun vs H Q _=>∃(a C dx qo ql:Addr) (fs:List (Str×V)) (q:Nat) (b0 B p r:Int) (xs ys:List Int),vs= [.ref a, .ref qo, .ref ql, .int (q:Int), .int b0]/\Tk K C/\H a=some (.ins C dx fs)/\fs.lookup (Str.ofString "bottom")=some (.int B)/\
 H qo=some (.lst (xs.map V.int))/\H ql=some (.lst (ys.map V.int))/\xs.length=ys.length/\xs.length<=1000/\ys[q]?=some p/\xs[q]?=some r/\0 < b0/\Big b0/\Big B/\(∀x∈xs,Big x)/\(∀y∈ys,Big y)/\
 ∀l H',H l=none->Same H H'->H' l=some (.lst ((tdF xs ys q b0 B p r).map V.int))->Q (.ref l) H'
theorem scTud:FnScope ["table","other","line","column","bottom","many","told"] ["table","other","line","column","bottom"] (ah sTud):= .of
theorem wI{f:Addr}{fd:FuncData}(F:Fun K "turned" "turned" sTud f fd)(B:Blt mg):FnOk P w K mg base CX0 1 f fd ["table","other","line","column","bottom"] (qh (K:=K)):=by
 refine F.okb scTud fun vs H Q E h=>?_;refine hZq fun q_ e_=>?_;obtain⟨a,C,dx,qo,ql,fs,q,b0,u,p,r,xs,ys,rfl,hC,ha,aC,ho,hl,a7,a5,hp,t,aT,a1,bB,bx,by_,k⟩:=h;subst e_;refine⟨rfl,fun a6 A outer s hr=>?_⟩;have a2:(["number","table","bottom"]:List Str).Nodup:=by decide +kernel
 have af:(["number","beside","table","bottom","many"]:List Str).Nodup:=by decide +kernel
 refine⟨_,ad (psR 5 scTud.nd (dB (ax cr (ao aA (pv 2) (pv 3) fun _ _=>rfl) a9 (ay _)) (ao aA (pv 1) (pv 3) fun _ _=>rfl) (cg bu (ao aA (pv 1) (pv 3) fun _ _=>rfl))))
  (ad (bG (ax ci (pv 5) a9 (ay _))
   (ai (az (aQ (NC:= ["number","table","bottom"]) (mp:= [none,some 0,some 4]) rfl (bf (pv 1)) (fun _ _ _ _ _=>pgA 0 a2) (fun _ _ _ _ _=>aZ)
    (fun _ _ _ _ _=>am cE (am aR (pv 0) (c9 (K:=K) rfl (pv 1) rfl)) (pv 2))))) aO)
  (ad (gc (i:=6) (NC:= ["number","beside","table","bottom","many"]) (mp:= [none,none,some 0,some 4,some 5]) (g:=gTup K 2 (be (aJ 0) (be (aJ 1) gNil))) rfl scTud.nd rfl rfl rfl (jg (k:= .lst) rfl B.zi (a0 (pv 1) (a0 (pv 2) aa)))
   (fun _ _ _ _ _=>bh (n:=2) rfl (aq (pgA 0 af) (aq (pgA 1 af) aV))) (fun _ _ _ _ _=>aZ)
   (fun _ _ _ _ _=>am cE (am fA (am aR (pv 0) (c9 (K:=K) rfl (pv 2) rfl)) (am aR (pv 4) (pv 1))) (pv 3)))
  (ad (fz (pv 5) (gT (pv 6) (pv 3) dr))
  (ai (az (pv 6)))))),?_⟩
 have a3:(20000:Nat)<=sizeLine:=by decide +kernel
 have ep:atI (ys.map V.int) (q:Int)=some (.int p):=aI (by rw[z7,hp];rfl)
 have er:atI (xs.map V.int) (q:Int)=some (.int r):=aI (by rw[z7,t];rfl)
 have bR:Big r:=bx r (za t);have a4:q < xs.length:=(zb.mp t).1;refine bP (fun σ' H'=>H=H'/\∃v:Int,v=Wg.sg p*r/\Big v/\σ'= [some (.ref a),some (.ref qo),some (.ref ql),some (.int q),some (.int b0),some (.int v),none]) ?_ fun nx au=>?_
 . intro σ' H' z_;refine hZq fun q_ e_=>?_;obtain⟨rfl,v,em,bm,rfl⟩:=z_;subst e_;refine⟨_,rfl,rfl,_,rfl,?_⟩;by_cases z:v=0
   . rw[z,decide_eq_true rfl];refine iteT ?_;refine⟨_,rfl,qo,rfl,⟨_,SqL.of ho⟩,fun D m=>?_⟩;refine bN (xs:=xs.map V.int) (fun j acc H3=>Same H H3/\H3 D=some (.lst acc)/\acc=((xs.take j).map fun x=>x*u / b0).map V.int) ⟨ae m,a8,rfl⟩ (fun j acc H3 d=>SqL.of (d.1 _ _ ho)) ?_ ?_
     . intro j x acc H3 hj ex z_;refine hZq fun q_ e_=>?_;obtain⟨l,c,rfl⟩:=z_;rw[z7]at ex;obtain⟨y,ey,rfl⟩:=zf.mp ex;subst e_;have jl:j < xs.length:=(zb.mp ey).1;refine⟨_,rfl,_,rfl,a,C,dx,fs,_,rfl,l _ _ ha,hC.cls,hC.nb,aC,y,u,rfl,rfl,⟨bx y (za ey),bB⟩,_,rfl,_,b0,rfl,rfl,⟨aT,a1⟩,?_⟩;refine CompN.mk hj (by rw[yY,yY,zG];omega) c ⟨aH m l,a8,?_⟩
       rw[aD ey];simp
     . rintro acc H3 ⟨l,c,rfl⟩;rw[yY,zx]at c;refine k D H3 m l ?_;unfold tdF;rw[if_pos (by rw[<-em];exact z)]
       exact c
   . have z':¬V.int v=V.int 0:=fun e=>z (V.int.inj e);rw[decide_eq_false z'];refine iteF (cC ?_);dsimp only;refine eF ?_;refine iQ (xs:=xs.map V.int) (ys:=ys.map V.int) (a:=qo) (b:=ql) (by rw[yY,yY];omega) (fun Q q=>⟨_,rfl,_,rfl,q⟩) (SqL.of ho) (SqL.of hl) fun D m=>?_
     refine⟨fun j acc H3=>Same H H3/\H3 D=some (.lst acc)/\acc=((List.zipWith (fun x y=>(x*u - Wg.sg p*r*y) / b0) xs ys).take j).map V.int,⟨ae m,a8,rfl⟩,fun j acc H3 d=>⟨SqL.of (d.1 _ _ ho),SqL.of (d.1 _ _ hl)⟩,?_,?_⟩
     . rintro j T x y acc H3 hj _ ⟨l,c,rfl⟩ ex ey nT;rw[z7]at ex ey;refine hZq fun q_ e_=>?_;obtain⟨x',ex',rfl⟩:=zf.mp ex;obtain⟨y',ac,rfl⟩:=zf.mp ey;subst e_;have jl:j < xs.length:=(zb.mp ex').1;have sT:=ae (o:= .tup [.int x', .int y']) nT;refine⟨T,_,rfl,SqT.of a8,rfl,_,_,rfl,_,_,rfl,rfl,ext2,?_⟩;refine fD ?_;refine⟨_,rfl,_,rfl,a,C,dx,fs,_,rfl,sT _ _ (l _ _ ha),hC.cls,hC.nb,aC,x',u,rfl,rfl,⟨bx _ (za ex'),bB⟩,_,rfl,_,rfl,v,y',rfl,rfl,⟨bm,by_ _ (za ac)⟩,_,_,rfl,rfl,_,rfl,_,b0,rfl,rfl,⟨aT,a1⟩,?_⟩;refine CompN.mk hj (by rw[yY,zG,List.length_zipWith];omega) (sT _ _ c) ⟨aH m (l.trans sT),a8,?_⟩
       have ez:(List.zipWith (fun x y=>(x*u - Wg.sg p*r*y) / b0) xs ys)[j]?=some ((x'*u - Wg.sg p*r*y') / b0):=by rw[List.getElem?_zipWith,ex',ac]
       rw[aD ez,em];simp
     . rintro acc H3 ⟨l,c,rfl⟩;have zl:(List.zipWith (fun x y=>(x*u - Wg.sg p*r*y) / b0) xs ys).length=xs.length:=by rw[List.length_zipWith];omega
       rw[yY,<-zl,zx]at c;refine aj ?_;refine⟨_,rfl,_,rfl,_,rfl,D,_,(q:Int),q,rfl,rfl,c,by rw[yY,zl];unfold ixN;rw[if_pos (by omega),if_pos (by omega)];simp,?_⟩
       refine⟨_,rfl,?_⟩;refine k D _ m (aH m l) ?_;rw[a8];unfold tdF;rw[if_neg (by rw[<-em];exact z),<-em,List.map_set]
 refine⟨_,rfl,_,rfl,ql,_,_,_,rfl,rfl,SqL.of hl,ep,p,0,rfl,rfl,_,rfl,?_⟩;by_cases d:0 < p
 . rw[decide_eq_true d];refine iteT ?_;refine⟨_,rfl,_,rfl,qo,_,_,_,rfl,rfl,SqL.of ho,er,?_⟩;exact au _ _ ⟨rfl,r,by unfold Wg.sg;rw[if_pos d];omega,bR,rfl⟩
 . rw[decide_eq_false d];refine iteF ?_;refine⟨_,rfl,_,rfl,qo,_,_,_,rfl,rfl,SqL.of ho,er,r,rfl,?_⟩;refine au _ _ ⟨rfl,-r,by unfold Wg.sg;rw[if_neg d];omega,?_,rfl⟩
   unfold Big at*;rw[AA];exact bR
theorem t7{D:TA}{pl:Addr}{b c:Int}:putF (Str.ofString "bottom") (.int c) (flds D pl b)=flds D pl c:=by
 unfold flds putF;rw[if_neg (by decide +kernel)]
 unfold putF;rw[if_neg (by decide +kernel)]
 unfold putF;rw[if_neg (by decide +kernel)]
 unfold putF;rw[if_pos rfl]
theorem t6{D:TA}{pl ql:Addr}{b:Int}:putF (Str.ofString "lines") (.ref ql) (flds D pl b)=flds D ql b:=by
 unfold flds putF;rw[if_neg (by decide +kernel)]
 unfold putF;rw[if_neg (by decide +kernel)]
 unfold putF;rw[if_pos rfl]
theorem ue{K:PySem.W.Frag}{ta tv:TE}{f:Str}{u:TS}{Z:Ends}{σ:L2.St}{H:Hp}(h:tv σ H fun y H1=>ta σ H1 fun x H2=>∃a C dx fs,x= .ref a/\H2 a=some (.ins C dx fs)/\Cls K C/\NoAttr K C f/\fs.length < 1000/\(u Z) σ (upd H2 a (.ins C dx (putF f y fs)))):tSeq (sFld K ta tv f) u Z σ H:=h
theorem pH{te:TE}{g:TG}{u:TS}{Z:Ends}{σ:L2.St}{H:Hp}(h:te σ H fun x H1=>g x σ H1 (u Z)):tSeq (tAsg te g) u Z σ H:=h
def ButX(D:TA)(H H':Hp):Prop:=∀x o,x≠D.a->x≠D.pss->x≠D.ph->H x=some o->H' x=some o
theorem ButX.of_same{D:TA}{H H':Hp}(s:Same H H'):ButX D H H':=fun x o _ _ _ e=>s _ _ e
theorem ButX.trans{D:TA}{H H1 H2:Hp}(a:ButX D H H1)(b:ButX D H1 H2):ButX D H H2:=fun x o h1 h2 h3 e=>b x o h1 h2 h3 (a x o h1 h2 h3 e)
theorem kdX{D:TA}{m n:Nat}{scs:List Int}{us:List Tr}{ws:List V}{pl:Addr}{ls:List V}{T:Wg.Tb}{H H':Hp}(h:Tab D m n scs us ws pl ls T H)(b:ButX D H H')(h':∃xs,H' D.pss=some (.lst xs))(h'':∃xs,H' D.ph=some (.lst xs)):Kd H H':=by
 have ha:=h.ob;have h1:=h.sd;have h2:=h.hd;refine⟨fun x xs e=>b x _ (fun z=>by rw[z,ha]at e;cases e) (fun z=>by rw[z,h1]at e;cases e) (fun z=>by rw[z,h2]at e;cases e) e,fun x xs e=>?_⟩
 by_cases e1:x=D.pss
 . rw[e1];exact h'
 . by_cases e2:x=D.ph
   . rw[e2];exact h''
   . exact⟨xs,b x _ (fun z=>by rw[z,ha]at e;cases e) e1 e2 e⟩
def ml:Sp:=fun vs H Q _=>∃(D:TA) (m n:Nat) (scs:List Int) (us:List Tr) (ws:List V) (pl:Addr) (ls:List V) (T:Wg.Tb) (r q:Nat),vs= [.ref D.a, .int (r:Int), .int (q:Int)]/\Tk K D.C/\Tab D m n scs us ws pl ls T H/\r < m/\q < n/\T.ln r q≠0/\0 < T.bot/\Big T.bot/\(∀i c,i < m->c < n+2->Big (T.ln i c))/\
 ∀pl' ls' H',ButX D H H'->Tab D m n scs us ws pl' ls' (Wg.piv T r q) H'->Q .non H'
theorem scTur:FnScope ["table","at","column","line","sign","bottom"] ["table","at","column"] (ah sTur):= .of
theorem wH{f:Addr}{fd:FuncData}(F:Fun K "turn" "turn" sTur f fd)(B:Blt mg)(zT:Cl P w K mg base 1 "turned" ["table","other","line","column","bottom"] (qh (K:=K))):
 FnOk P w K mg base CX0 2 f fd ["table","at","column"] (ml (K:=K)):=by
 refine F.okb scTur fun vs H Q E h=>?_;refine hZq fun q_ e_=>?_;obtain⟨D,m,n,scs,us,ws,pl,ls,T,r,q,rfl,hk,d,ac,dj,hp,b0,bb,bl,k⟩:=h;subst e_;refine⟨rfl,fun el A outer s hr=>?_⟩;have d3:(["other","table","column","line","bottom"]:List Str).Nodup:=by decide +kernel
 have d9:(["number","sign"]:List Str).Nodup:=by decide +kernel
 refine⟨_,ad (psR 3 scTur.nd (ao aA (aN (pv 0) rfl) (pv 1) fun _ _=>rfl))
  (ad (psR 4 scTur.nd (dB (ax cr (ao aA (pv 3) (pv 2) fun _ _=>rfl) a9 (ay _)) a9 (cg bu a9)))
  (ad (psR 5 scTur.nd (aN (pv 0) rfl))
  (ad (dw (pv 0) (av ij rfl B.ab ik (a0 (ao aA (pv 3) (pv 2) fun _ _=>rfl) aa)) rfl)
  (ad (dw (pv 0) (aQ (NC:= ["other","table","column","line","bottom"]) (mp:= [none,some 0,some 2,some 3,some 5]) rfl (bf (aN (pv 0) rfl)) (fun _ _ _ _ _=>pgA 0 d3) (fun _ _ _ _ _=>aZ)
   (fun _ _ _ _ _=>ak zT hr (a0 (pv 1) (a0 (pv 0) (a0 (pv 3) (a0 (pv 2) (a0 (pv 4) aa))))))) rfl)
  (ad (fz (aQ (NC:= ["number","sign"]) (mp:= [none,some 4]) rfl (bf (pv 3)) (fun _ _ _ _ _=>pgA 0 d9) (fun _ _ _ _ _=>aZ)
   (fun _ _ _ _ _=>am aR (cg bu (pv 1)) (pv 0))) (gT (aN (pv 0) rfl) (pv 1) dr))
  (ad (fz (am aR (pv 4) (pv 5)) (gT (ao aA (aN (pv 0) rfl) (pv 1) fun _ _=>rfl) (pv 2) dr))
  (ai (fz (aY (a0 (ao aA (aN (pv 0) rfl) (pv 2) fun _ _=>rfl) (a0 (ao aA (aN (pv 0) rfl) (pv 1) fun _ _=>rfl) aa))) (bh (n:=2) rfl (aq (gT (aN (pv 0) rfl) (pv 1) dr) (aq (gT (aN (pv 0) rfl) (pv 2) dr) aV))))))))))),?_⟩
 have ej:(20000:Nat)<=sizeLine:=by decide +kernel
 have m64:=d.m64;have n64:=d.n64;refine hZq fun q_ e_=>?_;obtain⟨ll,lr⟩:=d.ro;obtain⟨ql,ec,a5,em,ek⟩:=lr r ac;subst e_;have cp:atI ((Wg.ls (n+2) (T.ln r)).map V.int) (q:Int)=some (.int (T.ln r q)):=aI (fQ (by omega))
 have fb:∀b pl,(flds D pl b).lookup (Str.ofString "bottom")=some (.int b):=fun b pl=>rfl;have fl:∀b pl,(flds D pl b).lookup (Str.ofString "lines")=some (.ref pl):=fun b pl=>rfl;have fs:∀b pl,(flds D pl b).lookup (Str.ofString "sides")=some (.ref D.pss):=fun b pl=>rfl;have fh:∀b pl,(flds D pl b).lookup (Str.ofString "heads")=some (.ref D.ph):=fun b pl=>rfl;have bT:Big (Wg.sg (T.ln r q)):=by unfold Wg.sg Big;split<;>decide +kernel
 have ef:=bl r q ac (by omega)
 have d4:(if T.ln r q < 0 then -T.ln r q else T.ln r q)=((T.ln r q).natAbs:Int):=by split<;>omega
 have bB:Big ((T.ln r q).natAbs:Int):=by unfold Big at *;rw[Int.natAbs_natCast];exact ef
 have ed:Big (-Wg.sg (T.ln r q)):=by unfold Big at *;rw[AA];exact bT
 refine⟨_,rfl,D.a,D.C,D.dx,_,_,rfl,d.ob,hk.cls,hk.nl,fl _ _,_,rfl,pl,_,(r:Int),_,rfl,rfl,SqL.of d.li,aI ec,?_⟩;refine aj ?_;dsimp only;refine bP (fun σ' H'=>H=H'/\σ'= [some (.ref D.a),some (.int (r:Int)),some (.int (q:Int)),some (.ref ql),some (.int (Wg.sg (T.ln r q))),none]) ?_ fun nx cd=>?_
 . rintro σ' H' ⟨rfl,rfl⟩;refine⟨_,rfl,D.a,D.C,D.dx,_,_,rfl,d.ob,hk.cls,hk.nb,fb _ _,_,rfl,_,rfl,ql,_,_,_,rfl,rfl,SqL.of a5,cp,_,rfl,_,rfl,D.a,D.C,D.dx,_,rfl,d.ob,hk.cls,hk.nb,(by show 6 < 1000;decide),?_⟩
   rw[d4,t7];obtain⟨B',eB⟩:∃B':Int,B'=((T.ln r q).natAbs:Int):=⟨_,rfl⟩;rw[<-eB]at bB ⊢;obtain⟨H1,a7⟩:∃H1,H1=upd H D.a (.ins D.C D.dx (flds D pl B')):=⟨_,rfl⟩;rw[<-a7];have a6:H1 D.a=some (.ins D.C D.dx (flds D pl B')):=by rw[a7];exact a8
   have g:∀ {x:Addr} {xs:List V},H x=some (.lst xs)->H1 x=some (.lst xs):=fun{x xs} e=>by
    rw[a7,ag (fun z=>by rw[z,d.ob]at e;cases e)]
    exact e
   try dsimp only
   refine ue ?_;refine bO rfl ?_;refine⟨_,rfl,D.a,D.C,D.dx,_,_,rfl,a6,hk.cls,hk.nl,fl _ _,pl,rfl,⟨_,SqL.of (g d.li)⟩,fun L nL=>?_⟩;refine bN (xs:=ls) (fun j acc H'=>Same H1 H'/\H' L=some (.lst acc)/\acc.length=j/\∀i,i < j->∃z,acc[i]?=some (.ref z)/\H' z=some (.lst ((tdF (Wg.ls (n+2) (T.ln i)) (Wg.ls (n+2) (T.ln r)) q T.bot B' (T.ln r q) (T.ln i q)).map V.int))/\H1 z=none/\z≠L) ⟨ae nL,a8,rfl,fun i hi=>by omega⟩ (fun j acc H' p=>SqL.of (p.1 _ _ (g d.li))) ?_ ?_
   . intro j x acc H' hj ex z_;refine hZq fun q_ e_=>?_;obtain⟨s2,hL,al,hz⟩:=z_;rw[ll]at hj;obtain⟨qj,d5,eg,_,_⟩:=lr j hj;subst e_;rw[d5]at ex;cases ex;refine⟨_,rfl,_,rfl,_,rfl,_,rfl,_,rfl,D.a,D.C,D.dx,qj,ql,_,q,T.bot,B',T.ln r q,T.ln j q,Wg.ls (n+2) (T.ln j),Wg.ls (n+2) (T.ln r),rfl,hk,s2 _ _ a6,fb _ _,s2 _ _ (g eg),s2 _ _ (g a5),by rw[Wg.ls_len,Wg.ls_len],by rw[Wg.ls_len];omega,Wg.ls_at (by omega),Wg.ls_at (by omega),b0,bb,bB,?_,?_,fun l H3 nl s3 e3=>?_⟩
     . intro x mx;obtain⟨c,hc,rfl⟩:=zJ.mp mx;exact bl j c hj (zZ.mp hc)
     . intro x mx;obtain⟨c,hc,rfl⟩:=zJ.mp mx;exact bl r c ac (zZ.mp hc)
     . refine CompN.mk (by rw[ll];exact hj) (by omega) (s3 _ _ hL) ⟨aH nL (s2.trans s3),a8,by rw[zK,al];rfl,fun i hi=>?_⟩
       have dH:l≠L:=fun z=>by rw[z,hL]at nl;cases nl
       have ea:H1 l=none:=s2.free nl;rcases Nat.lt_or_ge i j with h|h
       . refine hZq fun q_ e_=>?_;obtain⟨z,a1,a2,a3,a4⟩:=hz i h;subst e_;exact⟨z,by rw[List.getElem?_append_left (by omega)];exact a1,by rw[ag a4];exact s3 _ _ a2,a3,a4⟩
       . have e:i=j:=by omega
         subst e;exact⟨l,by rw[List.getElem?_append_right (by omega),al];simp,by rw[ag dH];exact e3,ea,dH⟩
   intro acc H2 z_;refine hZq fun q_ e_=>?_;obtain⟨s2,c2,al,hz⟩:=z_;subst e_;rw[ll]at al hz;have db:=s2 _ _ a6;refine⟨_,rfl,D.a,D.C,D.dx,_,rfl,db,hk.cls,hk.nl,(by show 6 < 1000;decide),?_⟩
   rw[t6];obtain⟨H3,bi⟩:∃H3,H3=upd H2 D.a (.ins D.C D.dx (flds D L B')):=⟨_,rfl⟩;rw[<-bi];have bY:H3 D.a=some (.ins D.C D.dx (flds D L B')):=by rw[bi];exact a8
   have af:∀ {x:Addr} {xs:List V},H2 x=some (.lst xs)->H3 x=some (.lst xs):=fun{x xs} e=>by
    rw[bi,ag (fun z=>by rw[z,db]at e;cases e)]
    exact e
   have bj:=af (s2 _ _ (g a5))
   try dsimp only
   refine pH ?_;refine bO rfl ?_;refine⟨_,rfl,ql,rfl,⟨_,SqL.of bj⟩,fun M nM=>?_⟩;refine bN (xs:=(Wg.ls (n+2) (T.ln r)).map V.int) (fun j acc H'=>Same H3 H'/\H' M=some (.lst acc)/\acc=(((Wg.ls (n+2) (T.ln r)).take j).map fun x=> -Wg.sg (T.ln r q)*x).map V.int) ⟨ae nM,a8,rfl⟩ (fun j acc H' p=>SqL.of (p.1 _ _ bj)) ?_ ?_
   . intro j x b6 H' hj ex z_;refine hZq fun q_ e_=>?_;obtain⟨s4,hM,rfl⟩:=z_;rw[z7]at ex;obtain⟨y,ey,rfl⟩:=zf.mp ex;subst e_;have jl:j < (Wg.ls (n+2) (T.ln r)).length:=(zb.mp ey).1;have bg:=jl;rw[Wg.ls_len]at bg;rw[Wg.ls_at bg]at ey;cases ey;refine⟨_,rfl,_,rfl,_,rfl,_,_,rfl,rfl,⟨ed,bl r j ac bg⟩,?_⟩;refine CompN.mk hj (by rw[yY,yY,zG,Wg.ls_len];omega) hM ⟨aH nM s4,a8,?_⟩
     rw[aD (Wg.ls_at bg)];simp
   rintro b6 H4 ⟨s4,hM,rfl⟩;rw[yY,zx]at hM;have dI:=s4 _ _ (af c2);have bF:=s4 _ _ bY;have aC:∀ {N j:Nat},j < N->ixN N (j:Int)=some j:=fun{N j} h=>by unfold ixN;rw[if_pos (by omega),if_pos (by omega)];simp
   have cm:L≠M:=fun z=>by rw[<-z,af c2]at nM;cases nM
   have bI:D.a≠L:=fun z=>by rw[<-z,a6]at nL;cases nL
   have eb:D.a≠M:=fun z=>by rw[<-z,bY]at nM;cases nM
   refine⟨_,rfl,D.a,D.C,D.dx,_,_,rfl,bF,hk.cls,hk.nl,fl _ _,_,rfl,L,_,(r:Int),r,rfl,rfl,dI,aC (by omega),?_⟩
   have ee:(upd H4 L (.lst (acc.set r (.ref M)))) D.a=some (.ins D.C D.dx (flds D L B')):=by rw[ag bI];exact bF
   have dV:(upd H4 L (.lst (acc.set r (.ref M)))) M=some (.lst (((Wg.ls (n+2) (T.ln r)).map fun x=> -Wg.sg (T.ln r q)*x).map V.int)):=by rw[ag cm.symm];exact hM
   refine⟨_,rfl,_,rfl,_,_,rfl,rfl,⟨bT,bb⟩,_,rfl,D.a,D.C,D.dx,_,_,rfl,ee,hk.cls,hk.nl,fl _ _,_,rfl,L,_,(r:Int),_,rfl,rfl,SqL.of a8,aI (v:= .ref M) (by rw[List.getElem?_set_self (by omega)]),_,rfl,M,_,(q:Int),q,rfl,rfl,dV,aC (by rw[yY,yY,Wg.ls_len];omega),?_⟩
   rw[<-List.map_set,Wg.turnedR];obtain⟨H6,aT⟩:∃H6,H6=upd (upd H4 L (.lst (acc.set r (.ref M)))) M (.lst ((Wg.ls (n+2) ((Wg.piv T r q).ln r)).map V.int)):=⟨_,rfl⟩;rw[<-aT]
   have h6:∀ {x:Addr} {o:HO},x≠L->x≠M->H4 x=some o->H6 x=some o:=fun{x o} a b e=>by
    rw[aT,ag b,ag a];exact e
   have d6:H6 M=some (.lst ((Wg.ls (n+2) ((Wg.piv T r q).ln r)).map V.int)):=by rw[aT];exact a8
   have d7:H6 L=some (.lst (acc.set r (.ref M))):=by rw[aT,ag cm];exact a8
   have au:=h6 bI eb bF
   have old:∀ {x:Addr} {o:HO},x≠D.a->H x=some o->H6 x=some o:=fun{x o} na e=>by
    have e1:H1 x=some o:=by rw[a7,ag na];exact e
    have e3:H3 x=some o:=by rw[bi,ag na];exact s2 _ _ e1
    exact h6 (fun z=>by rw[<-z,e1]at nL;cases nL) (fun z=>by rw[<-z,e3]at nM;cases nM) (s4 _ _ e3)
   have u:∀ {x:Addr} {xs:List V},H x=some (.lst xs)->x≠D.a:=fun{x xs} e z=>by rw[z,d.ob]at e;cases e
   have bC:=old (u d.sd) d.sd;have bw:=old (u d.hd) d.hd;refine⟨_,rfl,D.a,D.C,D.dx,_,_,rfl,au,hk.cls,hk.nh,fh _ _,_,rfl,D.ph,_,(q:Int),_,rfl,rfl,SqL.of bw,aI (iH dj),_,rfl,D.a,D.C,D.dx,_,_,rfl,au,hk.cls,hk.nd,fs _ _,_,rfl,D.pss,_,(r:Int),_,rfl,rfl,SqL.of bC,aI (iH ac),two,fun t nt=>?_⟩;have sT:=ae (o:= .tup [.int (T.hd q:Nat), .int (T.sd r:Nat)]) nt;have d8:(upd (upd H6 t (.tup [.int (T.hd q:Nat), .int (T.sd r:Nat)])) D.pss (.lst ((nv (Wg.ls m T.sd)).set r (.int (T.hd q:Nat))))) D.a=some (.ins D.C D.dx (flds D L B')):=by rw[ag (u d.sd).symm];exact sT _ _ au
   have d2:(upd (upd H6 t (.tup [.int (T.hd q:Nat), .int (T.sd r:Nat)])) D.pss (.lst ((nv (Wg.ls m T.sd)).set r (.int (T.hd q:Nat))))) D.ph=some (.lst (nv (Wg.ls n T.hd))):=by rw[ag d.n3.symm];exact sT _ _ bw
   refine⟨t,_,rfl,SqT.of a8,rfl,_,_,rfl,_,rfl,D.a,D.C,D.dx,_,_,rfl,sT _ _ au,hk.cls,hk.nd,fs _ _,_,rfl,D.pss,_,(r:Int),r,rfl,rfl,sT _ _ bC,aC (by rw[bQ];exact ac),_,_,rfl,_,rfl,D.a,D.C,D.dx,_,_,rfl,d8,hk.cls,hk.nh,fh _ _,_,rfl,D.ph,_,(q:Int),q,rfl,rfl,d2,aC (by rw[bQ];exact dj),rfl,?_⟩
   have e1:(nv (Wg.ls m T.sd)).set r (.int (T.hd q:Nat))=nv (Wg.ls m (Wg.piv T r q).sd):=by
    rw[<-Wg.piv_sides];unfold nv;rw[List.map_set]
   have e2:(nv (Wg.ls n T.hd)).set q (.int (T.sd r:Nat))=nv (Wg.ls n (Wg.piv T r q).hd):=by
    rw[<-Wg.piv_heads];unfold nv;rw[List.map_set]
   rw[e1,e2]
   have fin:∀ {x:Addr} {o:HO},x≠D.pss->x≠D.ph->H6 x=some o->(upd (upd (upd H6 t (.tup [.int (T.hd q:Nat), .int (T.sd r:Nat)])) D.pss (.lst (nv (Wg.ls m (Wg.piv T r q).sd)))) D.ph (.lst (nv (Wg.ls n (Wg.piv T r q).hd)))) x=some o:=fun{x o} a b e=>by
    rw[ag b,ag a];exact sT _ _ e
   have bx:ButX D H (upd (upd (upd H6 t (.tup [.int (T.hd q:Nat), .int (T.sd r:Nat)])) D.pss (.lst (nv (Wg.ls m (Wg.piv T r q).sd)))) D.ph (.lst (nv (Wg.ls n (Wg.piv T r q).hd)))):=fun x o na ns nh e=>fin ns nh (old na e);have cb:L≠D.pss:=fun z=>by rw[z,g d.sd]at nL;cases nL
   have c4:L≠D.ph:=fun z=>by rw[z,g d.hd]at nL;cases nL
   have c3:M≠D.pss:=fun z=>by rw[z,af (s2 _ _ (g d.sd))]at nM;cases nM
   have b8:M≠D.ph:=fun z=>by rw[z,af (s2 _ _ (g d.hd))]at nM;cases nM
   have bR:(upd (upd (upd H6 t (.tup [.int (T.hd q:Nat), .int (T.sd r:Nat)])) D.pss (.lst (nv (Wg.ls m (Wg.piv T r q).sd)))) D.ph (.lst (nv (Wg.ls n (Wg.piv T r q).hd)))) D.pss=some (.lst (nv (Wg.ls m (Wg.piv T r q).sd))):=by rw[ag d.n3];exact a8
   refine k L (acc.set r (.ref M)) _ bx ⟨?_,bx _ _ (u d.tm) d.n1.symm d.n5.symm d.tm,d.tt.mono (kdX d bx ⟨_,bR⟩ ⟨_,a8⟩),d.ul,bx _ _ (u d.sc) d.n2.symm d.n6.symm d.sc,d.sl,fin cb c4 d7,⟨by rw[List.length_set];exact al,fun i hi=>?_⟩,bR,a8,d.n1,d.n2,d.n3,cb.symm,d.n5,d.n6,c4.symm,m64,n64⟩
   . have:=fin (u d.sd).symm (u d.hd).symm au;rw[this,eB];rfl
   . by_cases e:i=r
     . subst e;exact⟨M,by rw[List.getElem?_set_self (by omega)],fin c3 b8 d6,c3,b8⟩
     . refine hZq fun q_ e_=>?_;obtain⟨z,a1,a2,a3,a4⟩:=hz i hi;subst e_;have z3:=af a2;have d0:z≠M:=fun y=>by rw[<-y,z3]at nM;cases nM
       have cI:z≠D.pss:=fun y=>by rw[y,g d.sd]at a3;cases a3
       have b7:z≠D.ph:=fun y=>by rw[y,g d.hd]at a3;cases a3
       refine⟨z,by rw[List.getElem?_set_ne (fun y=>e y.symm)];exact a1,?_,cI,b7⟩
       have:=fin cI b7 (h6 a4 d0 (s4 _ _ z3));rw[this];congr 3;unfold tdF;rw[eB];split
       . rename_i y;exact Wg.turned0 e y
       . exact Wg.turned1 e
 . refine⟨_,rfl,_,rfl,ql,_,_,_,rfl,rfl,SqL.of a5,cp,_,0,rfl,rfl,_,rfl,?_⟩;by_cases pp:0 < T.ln r q
   . rw[decide_eq_true pp];refine iteT ?_;refine cd _ _ ⟨rfl,?_⟩;unfold Wg.sg;rw[if_pos pp];rfl
   . rw[decide_eq_false pp];refine iteF ?_;refine⟨1,rfl,cd _ _ ⟨rfl,?_⟩⟩;unfold Wg.sg;rw[if_neg pp];rfl
end
end K39
namespace L2
open PySem PySem.Spec PyProof.Rows
section
variable{X:Cx}
noncomputable def RgV(r:Addr)(n:Nat):HO:= .ext fun h=>∃t u v,IsRange h r 0 n 1 t u v
theorem yD{P:Program}{w:World}{H:Hp}{h:Heap}{r:Addr}{n:Nat}(x:∃t u v,IsRange h r 0 n 1 t u v):ObjOk P w H h r (RgV r n):=by
 obtain⟨t,u,v,e⟩:=x;exact⟨⟨t,u,v,e⟩,⟨_,e⟩,fun _ _ ⟨t',a,b,y⟩ k=>⟨t',a,b,k _ y⟩⟩
theorem kM:bV X (.type "range") (fun xs H Q=>∃n:Nat,xs= [.int n]/\∀r,H r=none->Q (.ref r) (upd H r (RgV r n))):=by
 intro pins s σ H xs us Q I r h;obtain⟨n,rfl,q⟩:=h;obtain⟨u,rfl,t,rfl⟩:=cG r;refine call_range_1 ?_;exact⟨.ref _,_,I.laid (t':=s.toks+1+1) (fun b ob e=>Heap.get?_push_of_some _ e) (z4 _) (yD ⟨_,_,_,Heap.get?_push_size _ rfl⟩),rfl,q _ (I.hok.fresh (z4 _))⟩
theorem lX(hc:X.calm=true):bV X (.type "list") (fun xs H Q=>∃(r:Addr) (n:Nat),xs= [.ref r]/\H r=some (RgV r n)/\n<=1000/\∀l,H l=none->Q (.ref l) (upd H l (.lst ((List.range n).map fun(i:Nat)=>V.int i)))):=by
 intro pins s σ H xs us Q I r h;obtain⟨c,n,rfl,hr,hn,q⟩:=h;obtain⟨u,rfl,p⟩:=cG r;cases p;obtain⟨⟨t,u,v,z⟩,_⟩:=(show ObjOk X.prog X.w H s.heap c (RgV c n)from I.hok c _ hr);refine call_list_range (n:=n) (I.ok.hd hc) z (small_one (by omega) (by omega) (by omega) (by omega)) (by rw[rangeSize_one];split<;>omega) (by omega) fun h' tk a g hk f b=>?_
 have m:Vals ((List.range n).map fun(i:Nat)=>V.int i) a.toList:=by
  have key:∀(ys:List Value) (k:Nat),(∀j x,ys[j]?=some x->∃t,x=Value.int ((k+j:Nat):Int) t)->Vals ((List.range' k ys.length).map fun(i:Nat)=>V.int i) ys:=by
   intro ys
   induction ys with
   |nil=>intro k _;exact .nil
   |cons y ys d=>
    intro k hk;rw[zq,List.range'_succ,zj];obtain⟨t,e⟩:=hk 0 y rfl;refine .cons ⟨t,by rw[e];rfl⟩ (d (k+1) fun j x ex=>?_)
    obtain⟨t,e⟩:=hk (j+1) x ex;exact⟨t,by rw[e];congr 1;omega⟩
  have:=key a.toList 0 fun j x ex=>by
   obtain⟨t,e⟩:=b.2 j x (by rw[<-A5];exact ex)
   exact⟨t,by rw[e];congr 1;omega⟩
  rw[zO,b.1]at this;rw[List.range_eq_range'];exact this
 have hL:(1000:Nat)<=sizeLine:=by decide +kernel
 refine⟨.ref _,_,I.laid (t':=tk) (o:= .lst ((List.range n).map fun(i:Nat)=>V.int i)) hk (z4 _) ⟨by rw[yY,zY];omega,a.toList,g,m,by rw[Array.toArray_toList];exact f⟩,rfl,q _ (I.hok.fresh (z4 _))⟩
open PySem PySem.Spec PyProof.Rows PySem.W
def uw:V->List V->Hp->VK->Prop:=fun x vs H Q=>∃(l:Addr) (ns:List Int) (k:Int) (j:Nat),x= .ref l/\vs= [.int k]/\H l=some (.lst (ns.map V.int))/\ns[j]?=some k/\(∀i,i < j->ns[i]?≠some k)/\Q (.int (j:Int)) H
theorem sR{ns:List Int}{its:List Value}(r:Vals (ns.map V.int) its){i:Nat}{k:Int}(hi:i < its.length):isInt k its[i]=decide (ns[i]?=some k):=by
 have hl:=r.length;rw[yY]at hl;obtain⟨y,a,b⟩:=r.get (i:=i) (x:= .int ns[i]) (by rw[z7,yZ (by omega)];rfl)
 obtain⟨t,rfl⟩:=b;rw[yZ hi]at a;rw[ze a,yZ (by omega)]
 simp only[isInt,Option.some.injEq];exact AN.mpr (by simp)
theorem oG:MtM X "list.index" uw:=by
 intro pins s σ H x vs v us Q I u rv h;obtain⟨l,ns,k,j,rfl,rfl,p,g,o,q⟩:=h;cases u;obtain⟨b,rfl,t,rfl⟩:=cG rv;obtain⟨z,its,n,r,hl,e⟩:=I.lstM p;have hl:=r.length;rw[yY]at hl;have w:j < ns.length:=(zb.mp g).1;have hz:its.length<=sizeLine:=by rw[yY]at z;omega
 rw[sizeLine_eq]at hz
 refine call_meets PySem.F.slot_list_index ⟨_,e,rfl⟩ PySem.F.entry_list_index (PySem.F.args_list_index_2 _ _)
  (MeetsSeq.list_index l its.toArray n (.int k t) (isInt k) (fun y hy=>?_) j (by simp;omega) (by simp;omega) ?_ fun i hi a=>?_) ⟨e,⟨.int j,H,I.tok _,⟨_,rfl⟩,q⟩⟩
 . have d:y∈its:=by simpa using hy
   obtain⟨i,hi,rfl⟩:=Ah d;obtain⟨y,f,m⟩:=r.get (i:=i) (x:= .int ns[i]) (by rw[z7,yZ (by omega)];rfl)
   obtain⟨t',rfl⟩:=m;rw[yZ hi]at f;rw[ze f];exact MeetsSeq.EqGives.int _ k t' t
 . have:=sR r (i:=j) (k:=k) (by omega)
   rw[decide_eq_true g]at this;simpa using this
 . have c:i < its.length:=by simpa using hi
   have:=sR r (i:=i) (k:=k) c;rw[decide_eq_false (o i a)]at this;simpa using this
noncomputable def RgW(r:Addr)(a n:Nat):HO:= .ext fun h=>∃t u v,IsRange h r a (a+n:Nat) 1 t u v
theorem wm{P:Program}{w:World}{H:Hp}{h:Heap}{r:Addr}{a n:Nat}(x:∃t u v,IsRange h r a (a+n:Nat) 1 t u v):ObjOk P w H h r (RgW r a n):=by
 obtain⟨t,u,v,e⟩:=x;exact⟨⟨t,u,v,e⟩,⟨_,e⟩,fun _ _ ⟨t',b,c,y⟩ k=>⟨t',b,c,k _ y⟩⟩
theorem kL:bV X (.type "range") (fun xs H Q=>∃a n:Nat,xs= [.int a, .int (a+n:Nat)]/\∀r,H r=none->Q (.ref r) (upd H r (RgW r a n))):=by
 intro pins s σ H xs us Q I r h;obtain⟨a,n,rfl,q⟩:=h;obtain⟨c,d,rfl,⟨t,rfl⟩,⟨u,rfl⟩⟩:=Vals.two r;refine call_range_2 ?_;exact⟨.ref _,_,I.laid (t':=s.toks+1) (fun b ob e=>Heap.get?_push_of_some _ e) (z4 _) (wm ⟨_,_,_,Heap.get?_push_size _ rfl⟩),rfl,q _ (I.hok.fresh (z4 _))⟩
theorem lW(hc:X.calm=true):bV X (.type "list") (fun xs H Q=>∃(r:Addr) (a n:Nat),xs= [.ref r]/\H r=some (RgW r a n)/\n<=1000/\a<=1000/\∀l,H l=none->Q (.ref l) (upd H l (.lst ((List.range n).map fun(i:Nat)=>V.int ((a+i:Nat):Int))))):=by
 intro pins s σ H xs us Q I r h;obtain⟨d,a,n,rfl,hr,hn,ha,q⟩:=h;obtain⟨u,rfl,z⟩:=cG r;cases z;obtain⟨⟨t,u,v,hR⟩,_⟩:=(show ObjOk X.prog X.w H s.heap d (RgW d a n)from I.hok d _ hr);refine call_list_range (n:=n) (I.ok.hd hc) hR (small_one (by omega) (by omega) (by omega) (by omega)) (by rw[rangeSize_one];split<;>omega) (by omega) fun h' tk b m hk g c=>?_
 have p:Vals ((List.range n).map fun(i:Nat)=>V.int ((a+i:Nat):Int)) b.toList:=by
  have key:∀(ys:List Value) (k:Nat),(∀j x,ys[j]?=some x->∃t,x=Value.int ((a+(k+j):Nat):Int) t)->Vals ((List.range' k ys.length).map fun(i:Nat)=>V.int ((a+i:Nat):Int)) ys:=by
   intro ys
   induction ys with
   |nil=>intro k _;exact .nil
   |cons y ys f=>
    intro k hk;rw[zq,List.range'_succ,zj];obtain⟨t,e⟩:=hk 0 y rfl;refine .cons ⟨t,by rw[e];rfl⟩ (f (k+1) fun j x ex=>?_)
    obtain⟨t,e⟩:=hk (j+1) x ex;exact⟨t,by rw[e];congr 1;omega⟩
  have:=key b.toList 0 fun j x ex=>by
   obtain⟨t,e⟩:=c.2 j x (by rw[<-A5];exact ex)
   exact⟨t,by rw[e];congr 1<;>omega⟩
  rw[zO,c.1]at this;rw[List.range_eq_range'];exact this
 have hL:(1000:Nat)<=sizeLine:=by decide +kernel
 refine⟨.ref _,_,I.laid (t':=tk) (o:= .lst ((List.range n).map fun(i:Nat)=>V.int ((a+i:Nat):Int))) hk (z4 _) ⟨by rw[yY,zY];omega,b.toList,m,p,by rw[Array.toArray_toList];exact g⟩,rfl,q _ (I.hok.fresh (z4 _))⟩
end
end L2
namespace Wg
theorem Rn.snoc{m n:Nat}{V R:Nat->Vec}{M:Int}{T:Nat->Tb}{r q:Nat->Nat}{J:Nat}(H:Rn m n V R M T r q J){r' q':Nat}(S:Stp m n M (T J) r' q'):
 ∃T2 r2 q2,Rn m n V R M T2 r2 q2 (J+1)/\T2 (J+1)=piv (T J) r' q':=by
 refine⟨fun j=>if j<=J then T j else piv (T J) r' q',fun j=>if j < J then r j else r',fun j=>if j < J then q j else q',⟨?_,?_,?_,?_⟩,?_⟩
 . show Inv m n V R (if 0<=J then T 0 else _);rw[if_pos (by omega)]
   exact H.inv
 . show Pm m n (if 0<=J then T 0 else _);rw[if_pos (by omega)]
   exact H.pm
 . intro j a;show Stp m n M (if j<=J then T j else _) (if j < J then r j else r') (if j < J then q j else q');rw[if_pos (by omega)]
   by_cases h:j < J
   . rw[if_pos h,if_pos h];exact H.st j h
   . have e:j=J:=by omega
     subst e;rw[if_neg h,if_neg h];exact S
 . intro j a;show(if j+1<=J then T (j+1)else _)=piv (if j<=J then T j else _) (if j < J then r j else r') (if j < J then q j else q');rw[if_pos (by omega:j<=J)]
   by_cases h:j < J
   . rw[if_pos h,if_pos h,if_pos (by omega)]
     exact H.nx j h
   . have e:j=J:=by omega
     subst e;rw[if_neg h,if_neg h,if_neg (by omega)]
 . show(if J+1<=J then _ else _)=_;rw[if_neg (by omega)]
structure Sz (m n:Nat) (L:Nat->Nat->Int) (M:Nat):Prop where
 le:∀i c,i < m->c < n+2->(L i c).natAbs<=M
 one:1<=M
theorem Sz.V{m n M:Nat}{L:Nat->Nat->Int}(h:Sz m n L M):∀k t,k < m+n->t < m->(V0 m L k t).natAbs<=M:=by
 intro k t hk ht;unfold V0;have:=h.one;by_cases e:k < m
 . rw[if_pos e];split
   . show 1<=M;exact this
   . exact zr _
 . rw[if_neg e,AA];exact h.le t (k - m) ht (by omega)
noncomputable def cut(m n:Nat)(V:Nat->Vec):Nat->Vec:=fun k t=>if k < m+n then V k t else 0
theorem Inv.cut{m n:Nat}{V R:Nat->Vec}{T:Tb}(I:Inv m n V R T)(P:Pm m n T):Inv m n (Wg.cut m n V) R T:=by
 refine⟨I.pos,?_,fun c t hc ht=>?_⟩
 . rw[<-I.det];congr 1;refine fK m fun k c hk hc=>?_;exact if_pos (P.sd_lt hk)
 . have e:Tb.W T (Wg.cut m n V) R n c t=Tb.W T V R n c t:=by
    unfold Tb.W;split
    . rename_i h;show -(if T.hd c < m+n then V (T.hd c) t else 0)=_;rw[if_pos (P.hd_lt h)]
    . rfl
   rw[e,<-I.ln c t hc ht];refine sumN_congr fun i hi=>?_;show T.ln i c*(if T.sd i < m+n then V (T.sd i) t else 0)=_;rw[if_pos (P.sd_lt hi)]
theorem Sz.bounds{m n M:Nat}{L:Nat->Nat->Int}{T:Tb}(h:Sz m n L M)(I:Inv m n (V0 m L) (R0 L) T)(P:Pm m n T):T.bot.natAbs<=fac m*M^m/\∀i c,i < m->c < n+2->(T.ln i c).natAbs<=fac m*M^m:=by
 have a:∀k t,t < m->(Wg.cut m n (V0 m L) k t).natAbs<=M:=by
  intro k t ht;unfold Wg.cut;split
  . rename_i e;exact h.V k t e ht
  . exact zr _
 refine⟨(I.cut P).bot_le a,fun i c hi hc=>(I.cut P).ln_le a (fun c t hc ht=>?_) hi hc⟩;exact h.le t c ht hc
end Wg
namespace K39
open PySem L2 Mth Tre Wd Su Tw Fm
structure FunC (K:PySem.W.Frag) (x qual:Str) (st:Stmt) (f:Addr) (fd:FuncData) (c0:Addr):Prop where
 ex:∃(oc:Value) (od:Option Addr) (kV doc pm:Value) (an:Option Addr) (ct:Value) (osl:Array (Option Value)),
  fd=PySem.W.fnOf x qual (b9 st) (aM st) (ah st) .none kV doc pm an (.ref c0) ct/\K.lookup f=some ⟨oc,od, .func fd,osl⟩/\PySem.W.codeIn K (.ref c0) qual=true
noncomputable def yO:Pos:=match aM sLby with
 | [.Return (some (.Call _ _ [⟨_, .Lambda _ _ _ pos,_⟩,_] _)) _]=>pos
 |_=>⟨0,0,0,0⟩
abbrev lbQ:Str:=(Str.ofString "least_by"++".<locals>.")++"<lambda>"
abbrev Lm(T0:Addr)(H:Hp):Prop:=Lam T0 yO lbQ H
theorem sZ{D:TA}{pl:Addr}:putF (Str.ofString "heads") (.ref D.ph) (putF (Str.ofString "sides") (.ref D.pss) (putF (Str.ofString "bottom") (.int 1) (putF (Str.ofString "lines") (.ref pl) (putF (Str.ofString "scales") (.ref D.psc) (putF (Str.ofString "terms") (.ref D.pt) [])))))=flds D pl 1:=by
 have e:∀(f:Str) (v:V),putF f v []= [(f,v)]:=fun f v=>rfl;have c:∀(f g:Str) (v x:V) (r:List (Str×V)),g≠f->putF f v ((g,x)::r)=(g,x)::putF f v r:=fun f g v x r h=>by unfold putF;rw[if_neg h];cases r<;>rfl
 unfold flds
 repeat (first|rw[e]|rw[c _ _ _ _ _ (by decide +kernel)])
theorem sJ(f:Str)(v:V):∀fs:List (Str×V),(putF f v fs).length<=fs.length+1
 | []=>z4 _
 |(g,x)::r=>by
  unfold putF;split
  . simp
  . have:=sJ f v r;simp only[zq];omega
section
variable{P:Program}{w:World}{K:PySem.W.Frag}{mg:Str->Option Value}{base:Heap}{T0:Addr}
def qE(T0:Addr):Sp:=fun vs H Q _=>∃(a b:Addr) (ns:List Int) (ps:List Nat),vs= [.ref a, .ref b]/\SqL K H a (ns.map V.int)/\SqL K H b (nv ps)/\(∀p∈ps,p < ns.length)/\Lm T0 H/\
 (ps= []->∀H',ButT T0 H H'->Lm T0 H'->Q .non H')/\∀p∈ps,(∀r∈ps,ns.getD p 0<=ns.getD r 0)->∀H',ButT T0 H H'->Lm T0 H'->Q (.int (p:Int)) H'
theorem yw:FnScope ["numbers","places"] ["numbers","places"] (ah sLby):= .of
theorem wW{f c0:Addr}{fd:FuncData}(F:FunC K "least_by" "least_by" sLby f fd c0)(B:Blt mg)(C:PySem.W.codeHdIn K c0 T0=true)(hB:base.BuiltinsAt mg T0):FnOk P w K mg base CX0 2 f fd ["numbers","places"] (qE (K:=K) T0):=by
 obtain⟨j,k,kV,e,pm,an,ct,g,rfl,lk,d⟩:=F.ex;refine vM lk d yw (fun vs H Q E h=>?_) fun A outer s H vs Q E hr h=>?_
 . obtain⟨a,b,ns,ps,rfl,_⟩:=h;rfl
 obtain⟨a,b,ns,ps,rfl,ha,hb,c,i,h1,h2⟩:=h
 have hk:PSs (cxOf CX0 P w K mg base ["numbers","places"] "least_by" (ah sLby) f (.ref c0) A outer s H E).nox (aM sLby) _:=
  ai (az (rH rfl hr rfl rfl (Or.inl rfl) rfl C hB rfl B.mi))
 exact⟨_,hk.nox,a,b,ns,ps,rfl,rfl,ha,hb,c,i,h1,h2⟩
def kY(C:Addr):Sp:=fun vs H Q _=>∃(a dx pt psc pl:Addr) (m n:Nat) (scs:List Int) (us:List Tr) (ws ls:List V) (L:Nat->Nat->Int),vs= [.ref a, .ref pt, .ref psc, .ref pl]/\Tk K C/\H a=some (.ins C dx [])/\H pt=some (.lst ws)/\TrsAt H ws us/\us.length=n/\H psc=some (.lst (scs.map V.int))/\scs.length=m/\H pl=some (.lst ls)/\
 (ls.length=m/\∀i,i < m->∃q,ls[i]?=some (.ref q)/\H q=some (.lst ((Wg.ls (n+2) (L i)).map V.int)))/\m<=64/\n<=64/\
 ∀(D:TA) (H':Hp),D.a=a->D.C=C->But1 a H H'->Tab D m n scs us ws pl ls (Wg.tb0 m L) H'->H D.pss=none->H D.ph=none->Q .non H'
theorem we:FnScope ["self","terms","scales","lines"] ["self","terms","scales","lines"] (ah iE):= .of
theorem uH{f C:Addr}{fd:FuncData}(F:Fun K "__init__" "Table.__init__" iE f fd)(B:Blt mg):FnOk P w K mg base CX0 1 f fd ["self","terms","scales","lines"] (kY (K:=K) C):=by
 refine F.okb we fun vs H Q E h=>?_;refine hZq fun q_ e_=>?_;obtain⟨a,dx,pt,psc,pl,m,n,scs,us,ws,ls,L,rfl,hk,ha,u,a7,ul,g,sl,aC,a6,m64,n64,k⟩:=h;subst e_;refine⟨rfl,fun bB A outer s hr=>?_⟩
 refine⟨_,ad (dw (pv 0) (pv 1) rfl) (ad (dw (pv 0) (pv 2) rfl) (ad (dw (pv 0) (pv 3) rfl) (ad (dw (pv 0) a9 rfl)
  (ad (dw (pv 0) (bE (lX rfl) rfl B.li PyProof.Rows.boot_list (a0 (bE kM rfl B.ra PyProof.Rows.boot_range (a0 (av ar rfl B.le PySem.boot_len (a0 (pv 2) aa)) aa)) aa)) rfl)
  (ai (dw (pv 0) (bE (lW rfl) rfl B.li PyProof.Rows.boot_list (a0 (bE kL rfl B.ra PyProof.Rows.boot_range (a0 (av ar rfl B.le PySem.boot_len (a0 (pv 2) aa)) (a0 (am aS (av ar rfl B.le PySem.boot_len (a0 (pv 2) aa)) (av ar rfl B.le PySem.boot_len (a0 (pv 1) aa))) aa))) aa)) rfl)))))),?_⟩
 have wl:=a7.len;have j:∀ {x:Addr} {xs:List V},H x=some (.lst xs)->x≠a:=fun{x xs} e z=>by rw[z,ha]at e;cases e
 refine⟨_,rfl,_,rfl,a,C,dx,_,rfl,ha,hk.cls,hk.nt,(by show 0 < 1000;decide),?_⟩
 refine⟨_,rfl,_,rfl,a,C,dx,_,rfl,a8,hk.cls,hk.ns,(by show 1 < 1000;decide),?_⟩
 refine⟨_,rfl,_,rfl,a,C,dx,_,rfl,a8,hk.cls,hk.nl,(by show 2 < 1000;decide),?_⟩
 refine⟨_,rfl,a,C,dx,_,rfl,a8,hk.cls,hk.nb,(by show 3 < 1000;decide),?_⟩
 rw[iZ,iZ,iZ];obtain⟨b,a3⟩:∃b,b=putF (Str.ofString "bottom") (.int 1) (putF (Str.ofString "lines") (.ref pl) (putF (Str.ofString "scales") (.ref psc) (putF (Str.ofString "terms") (.ref pt) []))):=⟨_,rfl⟩;rw[<-a3];have l4:b.length=4:=by rw[a3];rfl
 have o4:∀ {x:Addr} {xs:List V},H x=some (.lst xs)->(upd H a (.ins C dx b)) x=some (.lst xs):=fun{x xs} e=>by rw[ag (j e)];exact e
 refine⟨_,rfl,psc,_,rfl, .inl (SqL.of (o4 g)),m,(by rw[yY,sl]),fun r nr=>?_⟩
 have bb:a≠r:=fun z=>by rw[<-z,a8]at nr;cases nr
 refine⟨r,m,rfl,a8,by omega,fun ps af=>?_⟩
 have bg:r≠ps:=fun z=>by rw[<-z,a8]at af;cases af
 have t:(upd H a (.ins C dx b)) ps=none:=by rw[ag bg.symm]at af;exact af
 have aT:a≠ps:=fun z=>by rw[<-z,a8]at t;cases t
 refine⟨_,rfl,a,C,dx,_,rfl,by rw[ag aT,ag bb];exact a8,hk.cls,hk.nd,by rw[l4];decide,?_⟩
 obtain⟨H5,a1⟩:∃H5,H5=upd (upd (upd (upd H a (.ins C dx b)) r (RgV r m)) ps (.lst ((List.range m).map fun(i:Nat)=>V.int i))) a (.ins C dx (putF (Str.ofString "sides") (.ref ps) b)):=⟨_,rfl⟩;rw[<-a1];have a4:H5 a=some (.ins C dx (putF (Str.ofString "sides") (.ref ps) b)):=by rw[a1];exact a8
 have bj:H r=none:=by rw[ag bb.symm]at nr;exact nr
 have d:H ps=none:=by rw[ag aT.symm]at t;exact t
 have o5:∀ {x:Addr} {o:HO},x≠a->H x=some o->H5 x=some o:=fun{x o} na e=>by
  rw[a1,ag na,ag (fun z=>by rw[z,d]at e;cases e),ag (fun z=>by rw[z,bj]at e;cases e),ag na]
  exact e
 have v:H5 ps=some (.lst ((List.range m).map fun(i:Nat)=>V.int i)):=by rw[a1,ag aT.symm];exact a8
 refine⟨_,rfl,psc,_,rfl, .inl (SqL.of (o5 (j g) g)),_,rfl,psc,_,rfl, .inl (SqL.of (o5 (j g) g)),_,rfl,pt,_,rfl, .inl (SqL.of (o5 (j u) u)),_,_,rfl,rfl,m,n,?_,fun r2 ac=>?_⟩
 . rw[yY,sl,wl,ul];simp
 refine⟨r2,m,n,rfl,a8,by omega,by omega,fun ph au=>?_⟩
 have bi:r2≠ph:=fun z=>by rw[<-z,a8]at au;cases au
 have c:H5 ph=none:=by rw[ag bi.symm]at au;exact au
 have a2:a≠ph:=fun z=>by rw[<-z,a4]at c;cases c
 have a5:a≠r2:=fun z=>by rw[<-z,a4]at ac;cases ac
 have bw:ps≠ph:=fun z=>by rw[<-z,v]at c;cases c
 have bx:ps≠r2:=fun z=>by rw[<-z,v]at ac;cases ac
 refine⟨_,rfl,a,C,dx,_,rfl,by rw[ag a2,ag a5];exact a4,hk.cls,hk.nh,?_,?_⟩
 . have:=sJ (Str.ofString "sides") (.ref ps) b;rw[l4]at this;omega
 have o7:∀ {x:Addr} {o:HO},x≠a->H5 x=some o->(upd (upd (upd H5 r2 (RgW r2 m n)) ph (.lst ((List.range n).map fun(i:Nat)=>V.int ((m+i:Nat):Int)))) a (.ins C dx (putF (Str.ofString "heads") (.ref ph) (putF (Str.ofString "sides") (.ref ps) b)))) x=some o:=fun{x o} na e=>by
  rw[ag na,ag (fun z=>by rw[z,c]at e;cases e),ag (fun z=>by rw[z,ac]at e;cases e)]
  exact e
 have l:H ph=none:=by
  cases q:H ph with
  |none=>rfl
  |some o=>rw[o5 a2.symm q]at c;cases c
 have b1:But1 a H (upd (upd (upd H5 r2 (RgW r2 m n)) ph (.lst ((List.range n).map fun(i:Nat)=>V.int ((m+i:Nat):Int)))) a (.ins C dx (putF (Str.ofString "heads") (.ref ph) (putF (Str.ofString "sides") (.ref ps) b)))):=fun x o na e=>o7 na (o5 na e)
 have kd:Kd H (upd (upd (upd H5 r2 (RgW r2 m n)) ph (.lst ((List.range n).map fun(i:Nat)=>V.int ((m+i:Nat):Int)))) a (.ins C dx (putF (Str.ofString "heads") (.ref ph) (putF (Str.ofString "sides") (.ref ps) b)))):=by
  refine⟨fun x xs e=>b1 x _ (fun z=>by rw[z,ha]at e;cases e) e,fun x xs e=>⟨xs,b1 x _ (j e) e⟩⟩
 have p:∀ {x y:Addr} {o:HO},H x=some o->H y=none->y≠x:=fun{x y o} e n z=>by rw[z,e]at n;cases n
 refine k ⟨C,a,dx,pt,psc,ps,ph⟩ _ rfl rfl b1 ⟨?_,b1 _ _ (j u) u,a7.mono kd,ul,b1 _ _ (j g) g,sl,b1 _ _ (j aC) aC,⟨a6.1,fun i hi=>?_⟩,?_,?_,p u d,p g d,bw,p aC d,p u l,p g l,p aC l,m64,n64⟩ d l
 . rw[a8,a3];exact congrArg (fun z=>some (HO.ins C dx z)) (sZ (D:=⟨C,a,dx,pt,psc,ps,ph⟩))
 . obtain⟨q,e1,e2⟩:=a6.2 i hi;exact⟨q,e1,b1 _ _ (j e2) e2,(p e2 d).symm,(p e2 l).symm⟩
 . have e:(List.range m).map (fun(i:Nat)=>V.int i)=nv (Wg.ls m (Wg.tb0 m L).sd):=by
    unfold nv Wg.ls;rw[AG];rfl
   rw[<-e];exact o7 aT.symm v
 . have e:(List.range n).map (fun(i:Nat)=>V.int ((m+i:Nat):Int))=nv (Wg.ls n (Wg.tb0 m L).hd):=by
    unfold nv Wg.ls;rw[AG];rfl
   rw[<-e,ag a2.symm];exact a8
theorem gR{X:Cx}{K:PySem.W.Frag}{tg l:Expr}{tl:TE}(hK:X.K=K)(h:PE X l tl):PI X tg l (nF K tl):=by
 subst hK;exact bf h
def lim:Nat:=2^2600
structure Wb (m n:Nat) (L:Nat->Nat->Int) (scs:List Int) (C:Nat):Prop where
 ex:∃M,Wg.Sz m n L M/\Wg.fac m*M^m<=C
 sc:∀s∈scs,0 < s/\s.natAbs<=C
 le:1<=C
 big:C < lim
structure Okt (m n:Nat) (L:Nat->Nat->Int) (T:Wg.Tb):Prop where
 inv:Wg.Inv m n (Wg.V0 m L) (Wg.R0 L) T
 pm:Wg.Pm m n T
 st:Wg.Stl m n n T
theorem Wb.bnd{m n C:Nat}{L:Nat->Nat->Int}{scs:List Int}{T:Wg.Tb}(h:Wb m n L scs C)(I:Wg.Inv m n (Wg.V0 m L) (Wg.R0 L) T)(P:Wg.Pm m n T):T.bot.natAbs<=C/\∀i c,i < m->c < n+2->(T.ln i c).natAbs<=C:=by
 obtain⟨M,h1,h2⟩:=h.ex;obtain⟨a,b⟩:=h1.bounds I P;exact⟨zh a h2,fun i c hi hc=>zh (b i c hi hc) h2⟩
theorem cn{C:Nat}{x:Int}(h:x.natAbs<=C)(hb:C < lim):Big x:=
 zg h (zt hb (Am (by decide) (by decide)))
def qw:Sp:=fun vs H Q _=>∃(D:TA) (m n C:Nat) (scs:List Int) (us:List Tr) (ws:List V) (pl:Addr) (ls:List V) (L:Nat->Nat->Int),vs= [.ref D.a]/\Tk K D.C/\Tab D m n scs us ws pl ls (Wg.tb0 m L) H/\Wb m n L scs C/\
 ∀pl' ls' T H',ButX D H H'->Tab D m n scs us ws pl' ls' T H'->Okt m n L T->Q .non H'
theorem scSet:FnScope ["table","column","hanging"] ["table"] (ah sSet):= .of
theorem wP{f:Addr}{fd:FuncData}(F:Fun K "settle" "settle" sSet f fd)(B:Blt mg)(zS:Cl P w K mg base 2 "slack_lines" ["table"] (jS (K:=K)))(zT:Cl P w K mg base 2 "turn" ["table","at","column"] (ml (K:=K))):
 FnOk P w K mg base CX0 3 f fd ["table"] (qw (K:=K)):=by
 refine F.okb scSet fun vs H Q E h=>?_;refine hZq fun q_ e_=>?_;obtain⟨D,m,n,C,scs,us,ws,pl,ls,L,rfl,hk,u,hW,k⟩:=h;subst e_;refine⟨rfl,fun a6 A outer s hr=>?_⟩;have aT:(["at","table","column"]:List Str).Nodup:=by decide +kernel
 refine⟨_,ai (bX PassesOwn.never rfl (bZ rfl B.ra (a0 (av ar rfl B.le PySem.boot_len (a0 (aN (pv 0) rfl) aa)) aa)) (jh (i:=1) scSet.nd rfl (Or.inr rfl))
  (ad (gc (i:=2) (NC:= ["at","table","column"]) (mp:= [none,some 0,some 1]) rfl scSet.nd rfl rfl rfl (gR (K:=K) rfl (ak zS hr (a0 (pv 0) aa)))
   (fun _ _ _ _ _=>pgA 0 aT) (fun _ _ _ _ _=>cz (ax iF (ao (r:=rIxL K) aA (ao (r:=rIxL K) aA (c9 (K:=K) rfl (pv 1) rfl) (pv 0) fun _ _=>rfl) (pv 2) fun _ _=>rfl) a9 (ay _))) (fun _ _ _ _ _=>pv 0))
  (ai (bG (rq (pv 2) (by intro _;rfl)) (ai (cA (ak zT hr (a0 (pv 0) (a0 (ao aA (pv 2) a9 fun _ _=>rfl) (a0 (pv 1) aa)))))) aO)))),?_⟩
 have a5:(20000:Nat)<=sizeLine:=by decide +kernel
 have fl:∀b pl,(flds D pl b).lookup (Str.ofString "lines")=some (.ref pl):=fun b pl=>rfl;have wl:=u.tt.len;have m64:=u.m64;have n64:=u.n64;have ul:=u.ul;refine⟨_,rfl,D.a,D.C,D.dx,_,_,rfl,u.ob,hk.cls,hk.nt,rfl,D.pt,_,rfl, .inl (SqL.of u.tm),(ws.length:Int),rfl,by omega,by omega,?_⟩
 refine cV (n:=ws.length) (fun i σ H'=>(∃v1 v2,σ= [some (.ref D.a),v1,v2])/\∃pl' ls' T',ButX D H H'/\Tab D m n scs us ws pl' ls' T' H'/\Wg.Inv m n (Wg.V0 m L) (Wg.R0 L) T'/\Wg.Pm m n T'/\Wg.Stl m n i T')
  ⟨⟨none,none,rfl⟩,pl,ls,_,fun x o _ _ _ e=>e,u,Wg.inv0,Wg.pm0,fun c hc=>absurd hc (Nat.not_lt_zero _)⟩ ?_ ?_
 . intro i σ H' hi z_;refine hZq fun q_ e_=>?_;obtain⟨⟨v1,v2,rfl⟩,pl',ls',T',bx,tb,I,Pm,St⟩:=z_;subst e_;rw[Ap];have t:i < n:=by omega
   obtain⟨bb,bl⟩:=hW.bnd I Pm;refine aj ?_;dsimp only;refine eF ?_;refine bW rfl ?_;refine⟨_,rfl,D,m,n,scs,us,ws,pl',ls',T',rfl,hk,tb,fun l H1 nl s1 hl=>?_⟩;have af:=tb.same s1;refine⟨l,rfl,⟨_,SqL.of hl⟩,fun L' nL=>?_⟩;refine eC (xs:=nv (slk m T')) (fun j acc H2=>Same H1 H2/\H2 L'=some (.lst acc)/\acc=nv (((slk m T').take j).filter fun x=>decide (T'.ln x i≠0))) ⟨ae nL,a8,rfl⟩ (fun j acc H2 p=>SqL.of (p.1 _ _ hl)) ?_ ?_
   . intro j x acc H2 hj ex z_;refine hZq fun q_ e_=>?_;obtain⟨v,hL,rfl⟩:=z_;unfold nv at ex;rw[z7]at ex;obtain⟨r,er,rfl⟩:=zf.mp ex;obtain⟨rm,rs⟩:=slk_mem.mp (za er);have d:=af.same v;obtain⟨q,eq,hq,_,_⟩:=d.ro.2 r rm;subst e_
     have al:(((slk m T').take j).filter fun x=>decide (T'.ln x i≠0)).length<=m:=by
      refine zh (zR _ _) (zh (List.length_take_le' _ _) ?_);unfold slk;exact zh (zR _ _) (by rw[zY];exact z4 _)
     refine⟨_,rfl,D.a,D.C,D.dx,_,_,rfl,d.ob,hk.cls,hk.nl,fl _ _,_,rfl,pl',_,(r:Int),_,rfl,rfl,SqL.of d.li,aI eq,_,rfl,q,_,(i:Int),_,rfl,rfl,SqL.of hq,aI (fQ (by omega)),rfl,_,rfl,?_⟩
     by_cases z:T'.ln r i=0
     . rw[decide_eq_true (show V.int (T'.ln r i)=V.int 0 by rw[z])]
       refine iteF ?_;refine CompS.mk hj ⟨v,hL,?_⟩;rw[aD er,A4];simp[z]
     . rw[decide_eq_false (show¬V.int (T'.ln r i)=V.int 0 from fun e=>z (V.int.inj e))];refine iteT ?_;refine⟨_,rfl,CompN.mk hj (by unfold nv;rw[yY];omega) hL ⟨aH nL v,a8,?_⟩⟩
       rw[aD er,A4];simp[z,nv]
   . rintro acc H2 ⟨v,hL,rfl⟩;have d:=af.same v;have a1:(nv (slk m T')).length=(slk m T').length:=by unfold nv;rw[yY]
     rw[a1,zx]at hL;refine aj ?_;obtain⟨hg,y⟩:∃hg,hg=(slk m T').filter fun x=>decide (T'.ln x i≠0):=⟨_,rfl⟩;rw[<-y]at hL;refine⟨_,rfl,_, .inl ⟨_,SqL.of hL,rfl⟩,?_⟩
     cases hg with
     |nil=>
      refine iteF ?_;refine⟨⟨_,_,rfl⟩,pl',ls',T',(bx.trans (.of_same s1)).trans (.of_same v),d,I,Pm,St.next fun x hx hs=>?_⟩;refine Classical.byContradiction fun z=>?_
      have:x∈(slk m T').filter fun x=>decide (T'.ln x i≠0):=by
       rw[Aa,slk_mem];exact⟨⟨hx,hs⟩,decide_eq_true z⟩
      rw[<-y]at this;cases this
     |cons r rest=>
      have mr:r∈(slk m T').filter fun x=>decide (T'.ln x i≠0):=by rw[<-y];exact z6
      rw[Aa,slk_mem,decide_eq_true_iff]at mr;obtain⟨⟨g,a3⟩,ac⟩:=mr;refine iteT ?_;refine⟨_,rfl,_,rfl,L',_,((0:Nat):Int),_,rfl,rfl,SqL.of hL,aI rfl,_,rfl,D,m,n,scs,us,ws,pl',ls',T',r,i,rfl,hk,d,g,t,ac,I.pos,cn bb hW.big,fun a c ha hc=>cn (bl a c ha hc) hW.big,fun au a4 H3 aC a2=>?_⟩;exact⟨⟨_,_,rfl⟩,au,a4,_,((bx.trans (.of_same s1)).trans (.of_same v)).trans aC,a2,Wg.piv_inv I g t ac,Pm.piv g t,St.turn I g t a3 ac⟩
 . intro σ H' z_;refine hZq fun q_ e_=>?_;obtain⟨_,pl',ls',T',bx,tb,I,Pm,St⟩:=z_;subst e_;rw[wl,ul]at St;exact k pl' ls' T' H' bx tb ⟨I,Pm,St⟩
end
end K39
namespace Dj
open PySem PySem.Spec PySem.W PyProof.Rows L2 Tre Srt
section
variable{X:Cx}
def rh:List V->Hp->VK->Prop:=fun xs H Q=>∃(l:Addr) (vs:List V) (ts:List Tr),xs= [.ref l]/\H l=some (.lst vs)/\TrsAt H vs ts/\ts.length < 64/\(∀t∈ts,Hs t/\t.pure/\t.depth<=40)/\(∀t∈ts,∀u∈ts,Cm t u)/\SrQ H ts Q
end
open PySem PySem.Spec PySem.W PyProof.Rows L2 Tre Srt
theorem uV{prog:Program}{w:World}{A:Around}{s:Shared}{fin:Bool}{Q:Bool->Shared->Prop}{x y:Int}{t u:Tok}{as bs:List Value}{q:List (Bool×Bool)}(h:bD A s as bs q)(hq:Q (lexV fin ((x==y,decide (x < y))::q)) s):KatLex prog w A true fin Q ((Value.int x t::as).zip (Value.int y u::bs)) 0 s:=by
 rw[Al];refine kat_cons (SeqAt.EqAt.int_int x t y u prog w _ _ ?_)
 cases e:(x==y)with
 |true=>
  rw[e]at hq;exact kat_yes (ju (by decide) h hq)
 |false=>
  rw[e]at hq;refine kat_no ?_;exact oneLt_int hq
def Hi(t:Tr):Prop:=∃x r,t= .tup (.int x::r)
section
variable{X:Cx}{pins:List (Addr×Obj)}{σ:L2.St}{H:Hp}{s:Shared}
theorem nA(I:Inv X pins σ H s):∀ {vs:List V} {ts:List Tr} {as:List Value},TrsAt H vs ts->Vals vs as->(∀t∈ts,Hi t)->∃fs,KatTups s.heap as fs/\fs.length=as.length/\∀v∈fs,∃(x:Int) (t:Tok),v= .int x t
 |vs,[],as,h,r,_=>by
  unfold TrsAt at h;subst h;cases r;exact⟨[], .nil,rfl,fun v m=>by cases m⟩
 |vs,t::ts,as,h,r,hh=>by
  obtain⟨v,i,rfl,h1,h2⟩:=h.inv
  cases r with
  |cons r1 r2=>
   obtain⟨fs,f,d,c⟩:=nA I h2 r2 fun u m=>hh u (z5 _ m);obtain⟨x,j,rfl⟩:=hh t z6;unfold TrAt at h1;obtain⟨a,ws,rfl,g,k⟩:=h1;cases r1;obtain⟨y,l,rfl,k1,k2⟩:=k.inv;unfold TrAt at k1;subst k1;obtain⟨bs,o,n,b,ho,hc,hd⟩:=c8 I g
   cases b with
   |cons b p=>
    obtain⟨tk,rfl⟩:=b;refine⟨_,KatTups.cons ho hc hd rfl f,by simp[d],fun v m=>?_⟩
    rcases zc.mp m with e|m
    . exact⟨x,tk,e⟩
    . exact c v m
def rg:List V->Hp->VK->Prop:=fun xs H Q=>∃(l:Addr) (vs:List V) (ts:List Tr),xs= [.ref l]/\H l=some (.lst vs)/\TrsAt H vs ts/\ts.length < 64/\(∀t∈ts,Hi t/\t.pure/\t.depth<=40)/\(∀t∈ts,∀u∈ts,Cm t u)/\SrQ H ts Q
end
end Dj
namespace Dj
open PySem PySem.Spec PyProof.Rows L2 Tre Wd Su
section
variable{X:Cx}{pos:Pos}{o i:Expr}{td ty:TE}{P:Program}{w:World}{K:PySem.W.Frag}
end
mutual
noncomputable def ktT:Tr->Tk.KT
 | .int i=> .lf (.inl i)
 | .str x=> .lf (.inr x)
 | .tup ts=> .tp (ktTs ts)
 |_=> .tp []
noncomputable def ktTs:List Tr->List Tk.KT
 | []=> []
 |t::ts=>ktT t::ktTs ts
end
noncomputable def ktL:Tr->List Tk.KT
 | .tup ts=>ktTs ts
 |_=> []
mutual
def Kp:Tr->Prop
 | .int _=>True
 | .str _=>True
 | .tup ts=>Kps ts
 |_=>False
def Kps:List Tr->Prop
 | []=>True
 |t::ts=>Kp t/\Kps ts
end
theorem uS{ts:List Tr}(h:∀t∈ts,Kp t):Kps ts:=by
 induction ts with
 |nil=>trivial
 |cons t ts a=>exact⟨h t z6,a fun u m=>h u (z5 _ m)⟩
theorem pD{t:Tr}(h:Ty .tm t):Kp t:=by
 generalize e:So.tm=k at h
 induction h with
 |nm x=>simp only[Kp,Kps,and_self]
 |ap x ts _ _ a=>simp only[Kp,Kps,and_true,true_and];exact uS fun t m=>a t m e
 |fr=>cases e
 |pr=>cases e
 |fl=>cases e
 |mo=>cases e
 |li=>cases e
 |no=>cases e
 |bo=>cases e
 |ei=>cases e
 |lt=>cases e
mutual
theorem xu:∀ {t u:Tr},Kp t->Kp u->ktT t=ktT u->t=u
 | .int i, .int j,_,_,e=>by simp only[ktT,Tk.KT.lf.injEq,Sum.inl.injEq]at e;rw[e]
 | .int i, .str y,_,_,e=>by simp[ktT]at e
 | .int i, .tup us,_,_,e=>by simp[ktT]at e
 | .str x, .int j,_,_,e=>by simp[ktT]at e
 | .str x, .str y,_,_,e=>by simp only[ktT,Tk.KT.lf.injEq,Sum.inr.injEq]at e;rw[e]
 | .str x, .tup us,_,_,e=>by simp[ktT]at e
 | .tup ts, .int j,_,_,e=>by simp[ktT]at e
 | .tup ts, .str y,_,_,e=>by simp[ktT]at e
 | .tup ts, .tup us,h1,h2,e=>by
  simp only[ktT,Tk.KT.tp.injEq]at e;rw[kts_inj h1 h2 e]
theorem kts_inj:∀ {ts us:List Tr},Kps ts->Kps us->ktTs ts=ktTs us->ts=us
 | [],[],_,_,_=>rfl
 | [],_::_,_,_,e=>by simp[ktTs]at e
 |_::_,[],_,_,e=>by simp[ktTs]at e
 |t::ts,u::us,h1,h2,e=>by
  simp only[ktTs,Au]at e;rw[xu h1.1 h2.1 e.1,kts_inj h1.2 h2.2 e.2]
end
theorem nj{t u:Tr}(h1:Ty .tm t)(h2:Ty .tm u)(e:ktL t=ktL u):t=u:=by
 have k1:=pD h1;have k2:=pD h2;obtain⟨ts,rfl⟩:=j4 h1;obtain⟨us,rfl⟩:=j4 h2;rw[kts_inj k1 k2 e]
mutual
theorem xv:∀ {t:Tr},Kp t->(ktT t).depth=t.depth
 | .int i,_=>by simp[ktT,Tk.KT.depth,Tr.depth]
 | .str x,_=>by simp[ktT,Tk.KT.depth,Tr.depth]
 | .tup ts,k=>by
  simp only[ktT,Tk.KT.depth,Tr.depth];rw[kts_dep k]
theorem kts_dep:∀ {ts:List Tr},Kps ts->Tk.KTs.depth (ktTs ts)=Trs.depth ts
 | [],_=>by simp[ktTs,Tk.KTs.depth,Trs.depth]
 |t::ts,k=>by
  simp only[ktTs,Tk.KTs.depth,Trs.depth];rw[xv k.1,kts_dep k.2]
end
section
variable{K:PySem.W.Frag}{H:Hp}
mutual
theorem xr:∀ {v:V} {t:Tr},Kp t->TrAt H v t->KVt K H v (ktT t)
 |v, .int i,_,h=>by unfold TrAt at h;simp only[ktT,KVt];exact h
 |v, .str x,_,h=>by unfold TrAt at h;simp only[ktT,KVt];exact h
 |v, .tup ts,k,h=>by
  unfold TrAt at h;obtain⟨r,vs,e,h1,h2⟩:=h;simp only[ktT,KVt];exact⟨r,vs,e, .inl h1,kvts_of k h2⟩
theorem kvts_of:∀ {vs:List V} {ts:List Tr},Kps ts->TrsAt H vs ts->KVts K H vs (ktTs ts)
 |vs,[],_,h=>by unfold TrsAt at h;simp only[ktTs,KVts];exact h
 |vs,t::ts,k,h=>by
  obtain⟨v,r,e,h1,h2⟩:=h.inv;simp only[ktTs,KVts];exact⟨v,r,e,xr k.1 h1,kvts_of k.2 h2⟩
end
theorem key_tm{b:Addr}{t:Tr}(ty:Ty .tm t)(hd:t.depth<=7)(h:TrAt H (.ref b) t):KeyAt K H (ktL t) b:=by
 have kp:=pD ty;obtain⟨ts,rfl⟩:=j4 ty;unfold TrAt at h;obtain⟨r,vs,e,h1,h2⟩:=h;cases e;refine⟨vs, .inl h1,kvts_of kp h2,?_⟩;have:= @kts_dep ts kp;simp only[Tr.depth]at hd;simp only[ktL,Tk.KT.depth];omega
end
theorem tm_ref{H:Hp}{v:V}{t:Tr}(ty:Ty .tm t)(h:TrAt H v t):∃b,v= .ref b:=by
 obtain⟨ts,rfl⟩:=j4 ty;unfold TrAt at h;obtain⟨r,vs,e,_⟩:=h;exact⟨r,e⟩
theorem tm_hs{t:Tr}(h:Ty .tm t):Hs t:=by
 cases h<;>exact⟨_,_,rfl⟩
def En(H:Hp)(g:Tr->Fr)(e:Ent)(t:Tr):Prop:=e.1=ktL t/\TrAt H (.ref e.2.1) t/\TrAt H e.2.2 (frT (g t))
structure DAt (P:Program) (w:World) (K:PySem.W.Frag) (H:Hp) (a:Addr) (ks:List Tr) (g:Tr->Fr):Prop where
 ex:∃kvs,DJ P w K H a kvs/\Paired (En H g) kvs ks
 ty:∀t∈ks,Ty .tm t/\t.depth<=7
 nd:ks.Nodup
section
variable{P:Program}{w:World}{K:PySem.W.Frag}{H H':Hp}{a:Addr}{ks:List Tr}{g:Tr->Fr}
theorem en_mono{kvs:List Ent}(k:Kd H H')(h:Paired (En H g) kvs ks):Paired (En H' g) kvs ks:=Paired.imp' (fun e t x=>⟨x.1,x.2.1.mono k,x.2.2.mono k⟩) h
theorem DAt.kd(x:DAt P w K H a ks g)(k:Kd H H')(hs:∀o,(∀xs,o≠ .lst xs)->H a=some o->H' a=some o):DAt P w K H' a ks g:=by
 obtain⟨kvs,d,p⟩:=x.ex;exact⟨⟨kvs,d.kd k (hs _ (fun _ z=>by cases z) d.at_),en_mono k p⟩,x.ty,x.nd⟩
theorem DAt.same(x:DAt P w K H a ks g)(s:Same H H'):DAt P w K H' a ks g:=x.kd (Kd.of_same s) fun o _ e=>s _ _ e
theorem en_val{kvs:List Ent}(h:Paired (En H g) kvs ks)(ty:∀t∈ks,Ty .tm t){t:Tr}(tt:Ty .tm t):(t∈ks->∃v,valJ kvs (ktL t)=some v/\TrAt H v (frT (g t)))/\(t∉ks->valJ kvs (ktL t)=none):=by
 induction h with
 |nil=>exact⟨fun m=>(by cases m),fun _=>rfl⟩
 | @cons e u es us h1 _ a=>
  obtain⟨i1,i2⟩:=a fun x m=>ty x (z5 _ m);by_cases z:u=t
  . subst z;exact⟨fun _=>⟨e.2.2,jO h1.1,h1.2.2⟩,fun n=>absurd z6 n⟩
  . have ne:¬e.1=ktL t:=fun q=>z (nj (ty u z6) tt (h1.1.symm.trans q));refine⟨fun m=>?_,fun n=>?_⟩
    . rw[gx ne];rcases zc.mp m with e'|m
      . exact absurd e'.symm z
      . exact i1 m
    . rw[gx ne];exact i2 fun m=>n (z5 _ m)
theorem DAt.val(x:DAt P w K H a ks g){t:Tr}(tt:Ty .tm t):∃kvs,DJ P w K H a kvs/\kvs.length=ks.length/\(t∈ks->∃v,valJ kvs (ktL t)=some v/\TrAt H v (frT (g t)))/\(t∉ks->valJ kvs (ktL t)=none):=by
 obtain⟨kvs,d,p⟩:=x.ex;exact⟨kvs,d,Paired.length p,en_val p (fun t m=>(x.ty t m).1) tt⟩
open Classical in
noncomputable def setG(g:Tr->Fr)(t:Tr)(f:Fr):Tr->Fr:=fun u=>if u=t then f else g u
open Classical in
noncomputable def addK(ks:List Tr)(t:Tr):List Tr:=if t∈ks then ks else ks++ [t]
theorem xI{kvs:List Ent}{t:Tr}{f:Fr}{v:V}(hv:TrAt H v (frT f))(tt:Ty .tm t)(h:Paired (En H g) kvs ks)(ty:∀t∈ks,Ty .tm t):Paired (En H (setG g t f)) (kvs.map fun p=>if p.1=ktL t then(p.1,p.2.1,v)else p) ks:=by
 induction h with
 |nil=>exact .nil
 | @cons e u es us h1 _ a=>
  rw[zj];refine .cons ?_ (a fun x m=>ty x (z5 _ m));by_cases z:u=t
  . subst z;rw[if_pos h1.1];refine⟨h1.1,h1.2.1,?_⟩;unfold setG;rw[if_pos rfl];exact hv
  . have ne:¬e.1=ktL t:=fun q=>z (nj (ty u z6) tt (h1.1.symm.trans q));rw[if_neg ne];refine⟨h1.1,h1.2.1,?_⟩;unfold setG;rw[if_neg z];exact h1.2.2
theorem xH{kvs:List Ent}{t:Tr}{f:Fr}(n:t∉ks)(h:Paired (En H g) kvs ks):Paired (En H (setG g t f)) kvs ks:=by
 induction h with
 |nil=>exact .nil
 | @cons e u es us h1 _ a=>
  refine .cons ⟨h1.1,h1.2.1,?_⟩ (a fun m=>n (z5 _ m));unfold setG;rw[if_neg (fun z=>n (by rw[<-z];exact z6))]
  exact h1.2.2
theorem DAt.put(x:DAt P w K H a ks g){t:Tr}{b:Addr}{v:V}{f:Fr}(tt:Ty .tm t)(hd:t.depth<=7)(hb:TrAt H (.ref b) t)(hv:TrAt H v (frT f)){kvs:List Ent}(d:DJ P w K H a kvs)(hk:DAt P w K H a ks g->Paired (En H g) kvs ks):
 DAt P w K (upd H a (dJ P w a (putJ kvs (ktL t) b v))) a (addK ks t) (setG g t f):=by
 have p:=hk x;have kd:=Kd.updJ (o:=dJ P w a (putJ kvs (ktL t) b v)) d.at_;have c:=en_val p (fun t m=>(x.ty t m).1) tt;refine⟨⟨_,d.put (key_tm tt hd hb),?_⟩,fun u m=>?_,?_⟩
 . refine en_mono kd ?_;unfold putJ addK;by_cases m:t∈ks
   . obtain⟨h,e',_⟩:=c.1 m;rw[e',if_pos m,if_pos (show(some h).isSome=true from rfl)];exact xI hv tt p fun t m=>(x.ty t m).1
   . rw[c.2 m,if_neg m,if_neg (by simp)]
     refine Paired.snoc (xH m p) ⟨rfl,hb,?_⟩;unfold setG;rw[if_pos rfl];exact hv
 . unfold addK at m;split at m
   . exact x.ty u m
   . rcases zv.mp m with m|m
     . exact x.ty u m
     . rw[zw.mp m];exact⟨tt,hd⟩
 . unfold addK;split
   . exact x.nd
   . rename_i n;exact List.nodup_append.mpr ⟨x.nd,(by simp),fun u e y i=>by rw[zw.mp i];exact fun z=>n (by rw[<-z];exact e)⟩
theorem DAt.keys(x:DAt P w K H a ks g):∃kvs,DJ P w K H a kvs/\TrsAt H (kvs.map fun e=>V.ref e.2.1) ks:=by
 obtain⟨kvs,d,p⟩:=x.ex;refine⟨kvs,d,?_⟩;clear d x
 induction p with
 |nil=>exact .nil
 |cons h1 _ b=>exact .cons h1.2.1 b
end
end Dj
namespace Dj
open PySem PySem.Spec PySem.W PyProof.Rows L2 Tre Srt
section
variable{X:Cx}{pins:List (Addr×Obj)}{σ:L2.St}{H:Hp}{s:Shared}
theorem xO{Q:VK}{a:Addr}{as:List Value}{vs:List V}{ts:List Tr}(hu:X.A.units+60 < cLine)(I:Inv X pins σ H s)(rv:Vals vs as)(hT:TrsAt H vs ts)(hlen:ts.length < 64)(hts:∀t∈ts,Hi t/\t.pure/\t.depth<=40)(hcm:∀t∈ts,∀u∈ts,Cm t u)(hcol:∀(E:Value->Shared->Prop) (Q':List Value->Shared->Prop),(∀h' tk,(∀b o,s.heap.get? b=some o->h'.get? b=some o)->s.heap.objs.size < h'.objs.size->Q' as {s with heap:=h',toks:=tk})->wpAny (model X.prog X.w) X.A.in1 (collect (.ref a)) Q' E s)(q:SrQ H ts Q):wpAny (model X.prog X.w) X.A (call (.builtin "sorted") [.ref a]) (EP X pins σ Q) X.xe s:=by
 have l1:=hT.len;have l2:=rv.length;refine dZ (κ:=tuples' true) I rv hT hlen hcol (fun s' k h2 E' R hR=>?_) (fun s' k i j t u v v' a b mt mu ht r ra rb ea eb R hR=>?_) q
 . skip
   obtain⟨fs,k1,k2,k3⟩:=nA k hT rv fun t m=>(hts t m).1;refine kat_kind (T:=Value.type "int") k1 (by omega) (fun v m=>?_) (by decide +kernel) ?_
   . obtain⟨x,t,rfl⟩:=k3 v m;exact .now
   . rw[show(Value.type "int" !=Value.type "tuple")=true by decide +kernel]
     exact hR
 . skip
   have g:=hcm t mt u mu;obtain⟨⟨x1,r1,rfl⟩,p1,d1⟩:=hts t mt;obtain⟨⟨f,r2,rfl⟩,p2,d2⟩:=hts u mu;unfold TrAt at ht r;obtain⟨x0,a6,rfl,g0,g1⟩:=ht;obtain⟨y0,bi,rfl,g2,g3⟩:=r;cases ra;cases rb;obtain⟨bb,o,n,q3,ho,bg,aC⟩:=c8 k g0;obtain⟨bj,o',n',q4,af,a4,a3⟩:=c8 k g2;have z0:=g1.len;have z1:=g3.len;have z2:=q3.length;have z3:=q4.length;obtain⟨y1,a5,rfl,w1,w2⟩:=g1.inv;obtain⟨y2,a7,rfl,w3,w4⟩:=g3.inv;unfold TrAt at w1 w3;subst w1 w3
   cases q3 with
   |cons q3 au=>
    cases q4 with
    |cons q4 aT=>
     obtain⟨l,rfl⟩:=q3;obtain⟨y,rfl⟩:=q4;unfold Tr.depth at d1;unfold Trs.depth at d1;unfold Tr.pure at p1;unfold Trs.pure at p1;unfold kas_ask;rw[ea,eb];refine kat_lt (b:=true) ho aC af a3 ?_;rw[Aw,Aw];have p:X.A.in1.in1.units+40+1 < cLine:=by show X.A.units+1+1+40+1 < cLine;omega
     have e:∀q,lexV (decide ((Value.int x1 l::_).toArray.size < (Value.int f y::_).toArray.size)) ((x1==f,decide (x1 < f))::q)=lexV (decide ((Tr.int x1::r1).length < (Tr.int f::r2).length)) ((x1==f,decide (x1 < f))::q):=fun q=>by
      rw[z9,z9,<-z2,<-z3,z0,z1]
     by_cases ex:(x1==f)=true
     . unfold Cm at g;unfold Cms at g
       have ac:Cms r1 r2:=by
        rcases g with⟨_,c⟩|⟨n,_⟩
        . exact c
        . unfold Tre.eqT at n;rw[ex]at n;cases n
       have hx':=fH (A:=X.A.in1.in1) k p (fun d pp cc a1 a2 b1 b2=>fZ k 40 d pp cc a1 a2 b1 b2 p) (by omega) (.inl p1.2) ac w2 w4 au aT
       refine uV hx' ?_;rw[e]
       have e2:lexV (decide ((Tr.int x1::r1).length < (Tr.int f::r2).length)) ((x1==f,decide (x1 < f))::qs r1 r2)=ltT (.tup (Tr.int x1::r1)) (.tup (Tr.int f::r2)):=by
        refine aX ?_;rw[ltT_iff];have e4:x1=f:=beq_iff_eq.mp ex;have el:decide ((Tr.int x1::r1).length < (Tr.int f::r2).length)=decide (r1.length < r2.length):=by simp
        rw[el];simp only[lexV,ex,if_true,dS,Tre.code,Tre.codes,LtC,LtCs,Co.num.injEq,e4,beq_self_eq_true];constructor
        . intro h;exact .inr ⟨trivial,h⟩
        . rintro(h|h)
          . exact absurd h (Int.lt_irrefl _)
          . exact h.2
       rw[e2];exact hR
     . have exf:(x1==f)=false:=by simpa using ex
       rw[Al];refine kat_cons (SeqAt.EqAt.int_int x1 l f y X.prog X.w _ _ ?_);rw[exf];refine kat_no ?_;refine oneLt_int ?_
       have e2:decide (x1 < f)=ltT (.tup (Tr.int x1::r1)) (.tup (Tr.int f::r2)):=by
        refine aX ?_;rw[ltT_iff,decide_eq_true_iff];have ne:x1≠f:=fun z=>ex (beq_iff_eq.mpr z);simp only[Tre.code,Tre.codes,LtC,LtCs,Co.num.injEq];constructor
        . intro h;exact .inl h
        . rintro(h|h)
          . exact h
          . exact absurd h.1 ne
       rw[e2];exact hR
theorem xM{Q:VK}{a:Addr}{as:List Value}{vs:List V}{ts:List Tr}(hu:X.A.units+60 < cLine)(I:Inv X pins σ H s)(rv:Vals vs as)(hT:TrsAt H vs ts)(hlen:ts.length < 64)(hts:∀t∈ts,Hd t/\t.pure/\t.depth<=40)(hcm:∀t∈ts,∀u∈ts,Cm t u)(hcol:∀(E:Value->Shared->Prop) (Q':List Value->Shared->Prop),(∀h' tk,(∀b o,s.heap.get? b=some o->h'.get? b=some o)->s.heap.objs.size < h'.objs.size->Q' as {s with heap:=h',toks:=tk})->wpAny (model X.prog X.w) X.A.in1 (collect (.ref a)) Q' E s)(q:SrQ H ts Q):wpAny (model X.prog X.w) X.A (call (.builtin "sorted") [.ref a]) (EP X pins σ Q) X.xe s:=by
 have l1:=hT.len;have l2:=rv.length;refine dZ (κ:=tuples' false) I rv hT hlen hcol (fun s' c h2 E' R z=>?_) (fun s' c i j t u v v' a b mt mu ht h ra rb ea eb R z=>?_) q
 . skip
   obtain⟨fs,k1,k2,k3⟩:=i3 c hT rv fun t m=>(hts t m).1;refine PySem.W.kat_kind (T:=Value.type "tuple") k1 (by omega) (fun v m=>?_) (by decide +kernel) ?_
   . obtain⟨r,o,rfl,ho,hc⟩:=k3 v m;have:PySem.W.Looks (model X.prog X.w) s'.heap (typeOf (.ref r)) o.cls:=(PySem.W.Looks.ld ho).andThen .now;rw[hc]at this;exact this
   . rw[show(Value.type "tuple" !=Value.type "tuple")=false by decide +kernel]
     exact z
 . skip
   have hc:=hcm t mt u mu;obtain⟨⟨x,r1,rfl⟩,p1,d1⟩:=hts t mt;obtain⟨⟨y,r2,rfl⟩,p2,d2⟩:=hts u mu;unfold TrAt at ht h;obtain⟨x0,af,rfl,g0,g1⟩:=ht;obtain⟨y0,aC,rfl,g2,g3⟩:=h;cases ra;cases rb;obtain⟨g,o,n,q3,ho,au,hd⟩:=c8 c g0;obtain⟨k,o',n',q4,l,ac,p⟩:=c8 c g2;unfold Tr.depth at d1;unfold Tr.pure at p1;unfold Cm at hc;have f:X.A.in1.in1.units+40+1 < cLine:=by show X.A.units+1+1+40+1 < cLine;omega
   have hx:=fH (A:=X.A.in1.in1) c f (fun d pp cc a1 a2 b1 b2=>fZ c 40 d pp cc a1 a2 b1 b2 f) (by omega) (.inl p1) hc g1 g3 q3 q4
   unfold PySem.W.kas_ask;rw[ea,eb];refine PySem.W.kat_lt (b:=false) ho hd l p ?_;rw[Aw,Aw];refine iM hx ?_
   have e:lexV (decide (g.toArray.size < k.toArray.size)) (qs (.tup x::r1) (.tup y::r2))=ltT (.tup (.tup x::r1)) (.tup (.tup y::r2)):=by
    have z0:=g1.len;have z1:=g3.len;have z2:=q3.length;have z3:=q4.length
    have e2:decide (g.toArray.size < k.toArray.size)=decide ((Tr.tup x::r1).length < (Tr.tup y::r2).length):=by
     rw[z9,z9,<-z2,<-z3,z0,z1]
    rw[e2];refine aX ?_;rw[dS,ltT_iff];simp[Tre.code,LtC]
   rw[e];exact z
theorem ic{l:Addr}{as:List Value}(pl:s.heap.IsList l as.toArray)(hl:as.length < 64)(E:Value->Shared->Prop)(Q':List Value->Shared->Prop)(hQ':∀h' tk,(∀b o,s.heap.get? b=some o->h'.get? b=some o)->s.heap.objs.size < h'.objs.size->Q' as {s with heap:=h',toks:=tk}):wpAny (model X.prog X.w) X.A.in1 (collect (.ref l)) Q' E s:=by
 have c:(64:Nat)<=sizeLine:=by decide +kernel
 refine collect_list pl ?_ (by omega)
 have:=hQ' ((s.heap.push (seqObj "list" #[] 0)).update s.heap.objs.size (Obj.mapSeq (· ++as.toArray))) s.toks (fun b o e=>?_) ?_
 . simpa using this
 . have a:b < s.heap.objs.size:=Heap.lt_size e;rw[Heap.get?_update_ne _ _ _ _ (zp a),Heap.get?_push_ne _ _ _ (zp a)];exact e
 . rw[Heap.size_update,size_push'];exact Ay _
end
theorem call_sT{X:Cx}(hu:X.A.units+60 < cLine):bV X (.builtin "sorted") uv:=by
 intro pins s σ H xs us Q I r h;obtain⟨l,vs,ts,rfl,hl,e,a,d,b,q⟩:=h;obtain⟨u,rfl,f⟩:=cG r;cases f;obtain⟨as,rv,pl,_⟩:=I.list (SqL.of hl);have l1:=e.len;have l2:=rv.length;exact xM hu I rv e a d b (fun E g c=>ic pl.isList (by omega) E g c) q
theorem call_sI{X:Cx}(hu:X.A.units+60 < cLine):bV X (.builtin "sorted") rg:=by
 intro pins s σ H xs us Q I r h;obtain⟨l,vs,ts,rfl,hl,e,a,d,b,q⟩:=h;obtain⟨u,rfl,f⟩:=cG r;cases f;obtain⟨as,rv,pl,_⟩:=I.list (SqL.of hl);have l1:=e.len;have l2:=rv.length;exact xO hu I rv e a d b (fun E g c=>ic pl.isList (by omega) E g c) q
theorem call_sH{X:Cx}(hu:X.A.units+60 < cLine):bV X (.builtin "sorted") rh:=by
 intro pins s σ H xs us Q I r h;obtain⟨l,vs,ts,rfl,hl,e,a,d,b,q⟩:=h;obtain⟨u,rfl,f⟩:=cG r;cases f;obtain⟨as,rv,pl,_⟩:=I.list (SqL.of hl);have l1:=e.len;have l2:=rv.length;exact lS hu I rv e a d b (fun E g c=>ic pl.isList (by omega) E g c) q
section
variable{X:Cx}{P:Program}{w:World}{K:PySem.W.Frag}
theorem call_sJ(hP:X.prog=P)(hw:X.w=w)(hK:X.K=K)(hc:X.calm=true)(hu:X.A.units+60 < cLine):bV X (.builtin "sorted") (r9 P w K):=by
 subst hP hw hK;intro pins s σ H xs us Q I r h;obtain⟨a,kvs,ts,rfl,v,i,c,n,k,q⟩:=h;obtain⟨u,rfl,y⟩:=cG r;cases y;obtain⟨z,hd,ws,m,dd⟩:=fc I.hok I.kIn v;obtain⟨o,es,ep,ho,hx,f,d,_⟩:=dd;rw[uq m]at i;refine lS hu I (o9 ws) i c n k (fun E Q' l=>?_) q;have wl:=i.len;rw[yY]at wl;have t:es.size=ws.length:=by rw[<-zO,d,yY]
 have ac:(64:Nat)<=sizeLine:=by decide +kernel
 refine fX (A:=X.A.in1) (ur (es:=es) (ep:=ep) hd) (I.ok.hd hc) ⟨o,ho,hx,f⟩ (by omega) fun h' tk acc k1 sz b=>?_
 have e:acc.toList=ws.map fun x=>Value.ref x.2.1:=by
  refine AO fun j=>?_;by_cases hj:j < es.size
  . have g:j < acc.size:=by rw[b.1];exact hj
    obtain⟨en,e1,e2⟩:=b.2 j acc[j] (by simp[g])
    have p:es.toList[j]?=some en:=by rw[A5];exact e1
    rw[d,z7]at p;obtain⟨x,ex,rfl⟩:=zf.mp p;rw[z7,ex,A5,zQ g,e2];rfl
  . rw[A8 (by rw[zO,b.1];omega),A8 (by rw[yY];omega)]
 rw[e];exact l h' tk k1 sz
end
end Dj
namespace L2
open PySem PySem.Spec PyProof.Rows
theorem oW{K K':PySem.W.Frag}{a:Addr}{mp:List (Option Nat)}{tl:TE}{tc:TT}{te:TE}{Q:VK}{σ rest:L2.St}{H H1:Hp}{xs:List V}(e:subS mp σ=none::none::rest)(ha:∀Q:VK,Q (.ref a) H1->tl σ H Q)(h1:SqL K H1 a xs)(h:∀D,H1 D=none->∃Pv:Nat->List V->Hp->Prop,Pv 0 [] (upd H1 D (.lst []))/\(∀i acc H,Pv i acc H->SqL K H a xs)/\
  (∀i z acc H,i < xs.length->Pv i acc H->xs[i]?=some z->∃T x y,z= .ref T/\SqT K' H T [x,y]/\tc (some x::some y::rest) H fun b H5=>if b=true then te (some x::some y::rest) H5 (CompN xs.length i D acc Pv)else CompS xs.length i acc Pv H5)/\∀acc H,Pv xs.length acc H->Q (.ref D) H):
 cq mp (nF K tl) (gTup K' 2 (be (aJ 0) (be (aJ 1) gNil))) tc te σ H Q:=by
 unfold cq;rw[e];refine ha _ ⟨a,rfl,⟨xs,h1⟩,fun D o=>?_⟩;obtain⟨Pv,g,k,ps,l⟩:=h D o;refine⟨fun i m acc H=>m=xs.length - i/\i<=xs.length/\Pv i acc H,⟨xs.length,by simp,zr _,g⟩,?_⟩
 rintro i m acc H ⟨rfl,hi,p⟩;have d:=k i acc H p;by_cases c:i < xs.length
 . refine .inr ⟨⟨xs,xs[i],d,by simp[c]⟩,?_⟩
   rintro v H' ⟨rfl,y⟩;have n:=y xs d;obtain⟨T,x,z,rfl,j,f⟩:=ps i v acc _ c p n;exact⟨T,[x,z],rfl,j,rfl,x,[z],rfl,z,[],rfl,rfl,ext2,f⟩
 . have ei:i=xs.length:=by omega
   subst ei;exact .inl ⟨⟨xs,d,z4 _⟩,l acc H p⟩
end L2
namespace K39
open PySem L2 Mth Tre Wd Su Tw Fm
theorem fi{t u:Tr}{ts us:List Tr}(h:Cm t u)(hs:Cms ts us):Cms (t::ts) (u::us):=by
 unfold Cms;cases e:Tre.eqT t u
 . exact .inr ⟨rfl,h⟩
 . exact .inl ⟨rfl,hs⟩
theorem bn{us:List Tr}:Cms [] us:=by unfold Cms;trivial
theorem fN{a b:Int}:Cm (.int a) (.int b):=by unfold Cm;trivial
theorem dM{ts us:List Tr}(h:Cms ts us):Cm (.tup ts) (.tup us):=by unfold Cm;exact h
theorem at_i{H:Hp}{x:Int}:TrAt H (.int x) (.int x):=by unfold TrAt;rfl
def cT(p:Nat×Int):Tr:= .tup [.int (p.1:Int), .int p.2]
noncomputable def hcs(n:Nat)(T:Wg.Tb)(i:Nat):List (Nat×Int):=((List.range n).filter fun c=>decide (T.ln i c≠0)).map fun c=>(T.hd c,-T.ln i c)
noncomputable def cnt(n:Nat)(T:Wg.Tb)(i:Nat):List (Nat×Int):=(T.sd i,T.bot)::hcs n T i
noncomputable def wf(scs:List Int)(g:Int)(p:Nat×Int):Fr:=(fx (p.2*scs.getD p.1 0) g,fy (p.2*scs.getD p.1 0) g)
def wT(p:Nat×Fr):Tr:= .tup [.int (p.1:Int),frT p.2]
noncomputable def gF(s:Int):List Int->Int
 | []=>s
 |x::r=>gF (Int.gcd s x:Int) r
theorem xE(s:Int)(a b:List Int):gF s (a++b)=gF (gF s a) b:=by
 induction a generalizing s with
 |nil=>rfl
 |cons x r c=>simp only[zX,gF,c]
theorem xD{s:Int}{a:List Int}(h:0 < s):0 < gF s a/\(gF s a).natAbs<=s.natAbs:=by
 induction a generalizing s with
 |nil=>exact⟨h,z4 _⟩
 |cons x r b=>
  have f:0 < Int.gcd s x:=Int.gcd_pos_of_ne_zero_left _ (by omega)
  have d:Int.gcd s x<=s.natAbs:=Int.gcd_le_natAbs_left x (by omega)
  obtain⟨e,c⟩:=b (s:=(Int.gcd s x:Int)) (by omega)
  exact⟨e,zh c (by rw[Int.natAbs_natCast];exact d)⟩
theorem jj{n:Nat}{T:Wg.Tb}{i:Nat}{p:Nat×Int}(h:p∈hcs n T i):∃c,c < n/\T.ln i c≠0/\p=(T.hd c,-T.ln i c):=by
 unfold hcs at h;obtain⟨c,hc,rfl⟩:=zJ.mp h;rw[Aa,zZ,decide_eq_true_iff]at hc;exact⟨c,hc.1,hc.2,rfl⟩
theorem nG{n:Nat}{T:Wg.Tb}{i:Nat}:(hcs n T i).length<=n:=by
 unfold hcs;rw[yY];exact zh (zR _ _) (by rw[zY];exact z4 _)
section
variable{P:Program}{w:World}{K:PySem.W.Frag}{mg:Str->Option Value}{base:Heap}{T0:Addr}
def qH:Sp:=fun vs H Q _=>∃(D:TA) (m n:Nat) (scs:List Int) (us:List Tr) (ws:List V) (pl:Addr) (ls:List V) (T:Wg.Tb) (i:Nat) (ql:Addr),vs= [.ref D.a, .ref ql]/\Tk K D.C/\Tab D m n scs us ws pl ls T H/\H ql=some (.lst ((Wg.ls (n+2) (T.ln i)).map V.int))/\
 ∀l H' ws',H l=none->Same H H'->H' l=some (.lst ws')->TrsAt H' ws' ((hcs n T i).map cT)->Q (.ref l) H'
theorem yA:FnScope ["table","line"] ["table","line"] (ah sHco):= .of
theorem x3{f:Addr}{fd:FuncData}(F:Fun K "head_counts" "head_counts" sHco f fd)(B:Blt mg):FnOk P w K mg base CX0 1 f fd ["table","line"] (qH (K:=K)):=by
 refine F.okb yA fun vs H Q E h=>?_;refine hZq fun q_ e_=>?_;obtain⟨D,m,n,scs,us,ws,pl,ls,T,d,ql,rfl,hk,hT,r,k⟩:=h;subst e_;refine⟨rfl,fun af A outer s hr=>?_⟩;have u:(["head","count"]:List Str).Nodup:=by decide +kernel
 refine⟨_,ai (az (aQ (NC:= ["head","count"]) (mp:= [none,none]) (g:=gTup K 2 (be (aJ 0) (be (aJ 1) gNil))) rfl (jg (k:= .lst) rfl B.zi (a0 (aN (pv 0) rfl) (a0 (pv 1) aa)))
  (fun _ _ _ _ _=>bh (n:=2) rfl (aq (pgA 0 u) (aq (pgA 1 u) aV))) (fun _ _ _ _ _=>cz (ax iF (pv 1) a9 (ay _)))
  (fun _ _ _ _ _=>aY (a0 (pv 0) (a0 (cg bu (pv 1)) aa))))),?_⟩
 have ac:(20000:Nat)<=sizeLine:=by decide +kernel
 have n64:=hT.n64;refine iQ (xs:=nv (Wg.ls n T.hd)) (ys:=(Wg.ls (n+2) (T.ln d)).map V.int) (a:=D.ph) (b:=ql) (by rw[bQ,yY,Wg.ls_len];omega) (fun Q q=>⟨_,rfl,D.a,D.C,D.dx,_,_,rfl,hT.ob,hk.cls,hk.nh,rfl,_,rfl,q⟩) (SqL.of hT.hd) (SqL.of r) fun L nL=>?_
 refine⟨fun j acc H'=>Same H H'/\H' L=some (.lst acc)/\TrsAt H' acc ((((List.range j).filter fun c=>decide (T.ln d c≠0)).map fun c=>(T.hd c,-T.ln d c)).map cT),⟨ae nL,a8, .nil⟩,fun j acc H' p=>⟨SqL.of (p.1 _ _ hT.hd),SqL.of (p.1 _ _ r)⟩,?_,?_⟩
 . rintro j Tt x y acc H' hj _ ⟨s2,v,l⟩ ex ey nT;rw[bQ]at hj;rw[iH hj]at ex;rw[fQ (by omega)]at ey
   cases ex;cases ey;have i:=ae (o:= .tup [.int (T.hd j:Nat), .int (T.ln d j)]) nT;refine⟨Tt,_,rfl,SqT.of a8,rfl,_,_,rfl,_,_,rfl,rfl,ext2,?_⟩;refine⟨_,rfl,rfl,_,rfl,?_⟩
   have al:acc.length<=j:=by
    rw[l.len,yY,yY];exact zh (zR _ _) (by rw[zY];exact z4 _)
   by_cases z:T.ln d j=0
   . rw[decide_eq_true (show V.int (T.ln d j)=V.int 0 by rw[z])]
     refine iteF ?_;refine CompS.mk (by rw[bQ];exact hj) ⟨s2.trans i,i _ _ v,?_⟩
     rw[A9,A4];have:(List.filter (fun c=>decide (T.ln d c≠0)) [j])= []:=by simp[z]
     rw[this,List.append_nil];exact l.mono (Kd.of_same i)
   . rw[decide_eq_false (show¬V.int (T.ln d j)=V.int 0 from fun e=>z (V.int.inj e))];refine iteT ?_;refine⟨_,rfl,_,rfl,_,rfl,two,fun t nt=>?_⟩;have st:=ae (o:= .tup [.int (T.hd j:Nat), .int (-T.ln d j)]) nt;refine CompN.mk (by rw[bQ];exact hj) (by omega) (st _ _ (i _ _ v)) ⟨aH nL ((s2.trans i).trans st),a8,?_⟩
     rw[A9,A4];have e1:(List.filter (fun c=>decide (T.ln d c≠0)) [j])= [j]:=by simp[z]
     rw[e1,zu,zu];have kd:=Kd.upd (ys:=acc++ [.ref t]) (st _ _ (i _ _ v));refine TrsAt.app (.cons ?_ .nil) ((l.mono (Kd.of_same (i.trans st))).mono kd);exact(cK (a:= .int (T.hd j:Nat)) (b:= .int (-T.ln d j)) a8 at_i at_i).mono kd
 . rintro acc H2 ⟨s2,v,l⟩;rw[bQ]at l;exact k L H2 acc nL s2 v l
def qe:Sp:=fun vs H Q _=>∃(D:TA) (m n:Nat) (scs:List Int) (us:List Tr) (ws:List V) (pl:Addr) (ls:List V) (T:Wg.Tb) (lc:Addr) (wc:List V) (cs:List (Nat×Int)) (g:Int),vs= [.ref D.a, .ref lc, .int g]/\Tk K D.C/\Tab D m n scs us ws pl ls T H/\H lc=some (.lst wc)/\TrsAt H wc (cs.map cT)/\
 (∀p∈cs,p.1 < m/\Big p.2)/\(∀s∈scs,Big s)/\0 < g/\Big g/\cs.length < 64/\
 ∀l H' ws2 us2,H l=none->Same H H'->H' l=some (.lst ws2)->TrsAt H' ws2 us2->us2.Perm ((cs.map fun p=>(p.1,wf scs g p)).map wT)->(∀(i j:Nat) (t u:Tr),i<=j->us2[i]?=some t->us2[j]?=some u->ltT u t=false)->Q (.ref l) H'
theorem yp:FnScope ["table","counts","bottom"] ["table","counts","bottom"] (ah sWby):= .of
theorem wE{f:Addr}{fd:FuncData}(F:Fun K "weights_by" "weights_by" sWby f fd)(B:Blt mg)(zF:Cl P w K mg base 2 "fraction" ["top","bottom"] mD):
 FnOk P w K mg base CX0 3 f fd ["table","counts","bottom"] (qe (K:=K)):=by
 refine F.okb yp fun vs H Q E h=>?_;refine hZq fun q_ e_=>?_;obtain⟨D,m,n,scs,us,ws,pl,ls,T,lc,wc,cs,g,rfl,hk,hT,ac,aT,hcs,a4,g0,gb,a3,k⟩:=h;subst e_;refine⟨rfl,fun a5 A outer s hr=>?_⟩;have a2:(A.deeper (PyProof.Rows.envOfC (Str.ofString "weights_by") (ah sWby) s.heap.objs.size f a5)).units+60 < cLine:=by have:=hr.units;omega
 have a1:(["place","count","table","bottom"]:List Str).Nodup:=by decide +kernel
 refine⟨_,ai (az (av (Dj.call_sI a2) rfl B.so PyProof.Rows.boot_sorted (a0 (aQ (NC:= ["place","count","table","bottom"]) (mp:= [none,none,some 0,some 2]) (g:=gTup K 2 (be (aJ 0) (be (aJ 1) gNil))) rfl (bf (pv 1))
  (fun _ _ _ _ _=>bh (n:=2) rfl (aq (pgA 0 a1) (aq (pgA 1 a1) aV))) (fun _ _ _ _ _=>aZ)
  (fun _ _ _ _ _=>aY (a0 (pv 0) (a0 (ak zF hr (a0 (am aR (pv 1) (ao (r:=rIxL K) aA (c9 (K:=K) rfl (pv 2) rfl) (pv 0) fun _ _=>rfl)) (a0 (pv 3) aa))) aa)))) aa))),?_⟩
 have bg:(20000:Nat)<=sizeLine:=by decide +kernel
 have wl:=aT.len;rw[yY]at wl;refine ua ?_;refine oW (K':=K) (xs:=wc) (rest:= [some (.ref D.a),some (.int g)]) (a:=lc) rfl (fun Q q=>⟨_,rfl,q⟩) (SqL.of ac) fun L nL=>?_;refine⟨fun j acc H'=>Same H H'/\H' L=some (.lst acc)/\TrsAt H' acc (((cs.take j).map fun p=>(p.1,wf scs g p)).map wT),⟨ae nL,a8,by rw[Ak];exact .nil⟩,fun j acc H' p=>SqL.of (p.1 _ _ ac),?_,?_⟩
 . rintro j z acc H' hj ⟨e,hL,l⟩ ez;refine hZq fun q_ e_=>?_;obtain⟨t',v,a6⟩:=(aT.mono (Kd.of_same e)).get' ez;rw[z7]at v;obtain⟨⟨d,c⟩,eq,rfl⟩:=zf.mp v;obtain⟨T',x,y,rfl,bb,hx,hy⟩:=bL a6;unfold TrAt at hx hy;subst hx hy;obtain⟨pm,cb⟩:=hcs _ (za eq);subst e_;have af:=hT.same e;have sl:=hT.sl
   have i:scs[d]?=some (scs.getD d 0):=by
    rw[zd,yZ (by omega)]
    rfl
   refine⟨T',_,_,rfl,SqT.of bb,?_⟩;refine fD ?_;refine⟨_,rfl,_,rfl,_,rfl,D.a,D.C,D.dx,_,_,rfl,af.ob,hk.cls,hk.ns,rfl,_,rfl,D.psc,_,(d:Int), .int (scs.getD d 0),rfl,rfl,SqL.of af.sc,aI (by rw[z7,i];rfl),c,_,rfl,rfl,⟨cb,a4 _ (za i)⟩,_,rfl,c*scs.getD d 0,g,rfl,g0,gb,fun q nq=>?_⟩
   have sq:=ae (o:= .tup [.int (fx (c*scs.getD d 0) g), .int (fy (c*scs.getD d 0) g)]) nq;refine⟨two,fun t nt=>?_⟩;have st:=ae (o:= .tup [.int (d:Int), .ref q]) nt;refine CompN.mk hj (by rw[l.len,yY,yY,zG];omega) (st _ _ (sq _ _ hL)) ⟨aH nL ((e.trans sq).trans st),a8,?_⟩
   have kd:=Kd.upd (ys:=acc++ [.ref t]) (st _ _ (sq _ _ hL));rw[aD eq,zu,zu];refine TrsAt.app (.cons ?_ .nil) ((l.mono (Kd.of_same (sq.trans st))).mono kd);have hq:TrAt (upd (upd H' q (.tup [.int (fx (c*scs.getD d 0) g), .int (fy (c*scs.getD d 0) g)])) t (.tup [.int (d:Int), .ref q])) (.ref q) (frT (wf scs g (d,c))):=cK (st _ _ a8) at_i at_i;exact(cK (a:= .int (d:Int)) (b:=frT (wf scs g (d,c))) a8 at_i hq).mono kd
 . rintro acc H2 ⟨e,hL,l⟩;rw[wl,zx]at l;refine⟨L,acc,_,rfl,hL,l,by rw[yY,yY];exact a3,fun t mt=>?_,fun t mt u mu=>?_,fun D2 ws2 us2 aC hp au a7=>?_⟩
   . obtain⟨q,mq,rfl⟩:=zJ.mp mt;refine⟨⟨_,_,rfl⟩,?_,?_⟩
     . unfold wT frT Tr.pure Trs.pure Trs.pure Tr.pure Trs.pure Tr.pure Trs.pure;simp[Trs.pure,Tr.pure]
     . unfold wT frT;simp[Tr.depth,Trs.depth]
   . refine hZq fun q_ e_=>?_;obtain⟨q,mq,rfl⟩:=zJ.mp mt;obtain⟨q',bi,rfl⟩:=zJ.mp mu;subst e_;exact dM (fi fN (fi (dM (fi fN (fi fN bn))) bn))
   . have sD:=ae (o:= .lst ws2) aC;exact k D2 _ ws2 us2 (e.free aC) (e.trans sD) a8 (au.mono (Kd.of_same sD)) hp a7
end
end K39
namespace L2
open PySem PySem.Spec PyProof.Rows
theorem kF{n:Nat}{D:Addr}{tc:TT}{te:TE}{rest:L2.St}{Q:VK}{H1:Hp}(Pv:Nat->List V->Hp->Prop)(h0:Pv 0 [] (upd H1 D (.lst [])))(hs:∀(i:Nat) acc H,i < n->Pv i acc H->tc (some (.int (0+(i:Int)))::rest) H fun b H5=>if b=true then te (some (.int (0+(i:Int)))::rest) H5 (CompN n i D acc Pv)else CompS n i acc Pv H5)(hd:∀acc H,Pv n acc H->Q (.ref D) H):ip (Itr 0 n) D tc te rest Q H1:=by
 refine⟨fun i m acc H=>m=n - i/\i<=n/\Pv i acc H,⟨n,by simp,zr _,h0⟩,?_⟩
 rintro i m acc H ⟨rfl,hi,p⟩;by_cases a:i < n
 . refine .inr ⟨a,fun x H' y=>⟨ext1,?_⟩⟩;obtain⟨e,y⟩:=y;subst e y;exact hs i acc _ a p
 . have e:i=n:=by omega
   subst e;exact .inl ⟨z4 _,hd acc H p⟩
section
variable{X:Cx}
end
end L2
namespace Tre
open PySem PySem.Spec PyProof.Rows L2
section
variable{X:Cx}
def rEqL(b:Bool):R2:=fun x y H Q=>∃l m vs ws ts us,x= .ref l/\y= .ref m/\H l=some (.lst vs)/\H m=some (.lst ws)/\TrsAt H vs ts/\TrsAt H ws us/\(Trs.pure ts\/Trs.pure us)/\Trs.depth ts<=40/\Q (.bl (eqTs ts us==b)) H
theorem t8{ts us:List Tr}(h:ts.length≠us.length):eqTs ts us=false:=by
 rw[dG,Bool.and_eq_false_iff];right;simp[h]
theorem sI{A:Around}{pins:List (Addr×Obj)}{σ:L2.St}{H:Hp}{s:Shared}{l m:Addr}{vs ws:List V}{ts us:List Tr}(hu:A.units+50 < cLine)(I:Inv X pins σ H s)(h1:H l=some (.lst vs))(h2:H m=some (.lst ws))(k1:TrsAt H vs ts)(k2:TrsAt H ws us)(hp:Trs.pure ts\/Trs.pure us)(hd:Trs.depth ts<=40):
 SeqAt.RcAt A s (.ref l) (.ref m) (eqTs ts us)/\SeqAt.RcNeAt A s (.ref l) (.ref m) (!eqTs ts us):=by
 obtain⟨as,r1,a,_⟩:=I.list (SqL.of h1);obtain⟨bs,r2,p2,_⟩:=I.list (SqL.of h2);have l1:=k1.len;have l2:=k2.len;have f:=r1.length;have g:=r2.length;by_cases z:ts.length=us.length
 . have hsz:as.toArray.size=bs.toArray.size:=by rw[z9,z9];omega
   have he:=fun j (d:j < as.toArray.size) (g2:j < bs.toArray.size)=>kj (A:=A.in1) I (by show A.units+1+42 < cLine;omega) k1 k2 hp hd r1 r2 j d g2
   have b:=SeqAt.RcAt.lists (A:=A) (e:=eqJ ts us) a.isList p2.isList hsz (by omega) he
   have c:=SeqAt.RcNeAt.lists (A:=A) (e:=eqJ ts us) a.isList p2.isList hsz (by omega) he
   have e:(List.range as.toArray.size).all (eqJ ts us)=eqTs ts us:=by
    rw[dG,<-z,Nat.min_self];have:as.toArray.size=ts.length:=by rw[z9];omega
    rw[this];simp
   rw[e]at b c;exact⟨b,c⟩
 . have hsz:(as.toArray.size !=bs.toArray.size)=true:=by
    rw[z9,z9];simp only[bne_iff_ne,ne_eq];omega
   rw[t8 z];exact⟨SeqAt.RcAt.lists_lengths a.isList p2.isList hsz (by omega),SeqAt.RcNeAt.lists_lengths a.isList p2.isList hsz (by omega)⟩
theorem rQ(hu:X.A.units+60 < cLine):OpR X (compareOp .NotEq) (rEqL false):=by
 intro pins s σ H x y v u Q I b a h;obtain⟨l,m,vs,ws,ts,us,rfl,rfl,h1,h2,k1,k2,hp,hd,q⟩:=h;cases b;cases a;rw[tL]at q;exact(sI (A:=X.A) (by omega) I h1 h2 k1 k2 hp hd).2 X.prog X.w X.xe _ ⟨.bl (!eqTs ts us),H,I,rfl,q⟩
open PySem PySem.Spec PyProof.Rows L2
end
open PySem PySem.Spec PyProof.Rows L2
theorem bc{M:Model}{A:Around}{E:Value->Shared->Prop}{s:Shared}{l:Addr}{items:Array Value}{n:Nat}{Q:Array Value->Shared->Prop}(hl:s.heap.get? l=some {cls:= .type "list",data:= .seq items n})(h:Q items s):wpAny M A (Builtin.List.listItems (.ref l)) Q E s:=by
 unfold Builtin.List.listItems;refine wpAny_bind ?_;unfold seqItems?;refine wpAny_bind (wpAny_load hl ?_);exact wpAny_pure (wpAny_pure h)
theorem jp(l b:Addr)(items items2:Array Value)(n n2:Nat):∀(k i:Nat) (q:List (Bool×Bool)),items.size - i=k->
 Meets (Builtin.«list.__eq__.loop» {pos:= [Value.ref l,Value.ref b,rawInt (i:Int),rawInt 0]}) (fun A R s=>s.heap.get? l=some {cls:= .type "list",data:= .seq items n}/\s.heap.get? b=some {cls:= .type "list",data:= .seq items2 n2}/\
  bD A.in1 s (items.toList.drop i) (items2.toList.drop i) q/\R (.ok (.ret (.bool (lexV (decide (items.size < items2.size)) q)))) s):=by
 intro k
 induction k with
 |zero=>
  intro i q hk prog w A R s h;obtain⟨hl,hb,hx,h⟩:=h;have e1:items[i]?=none:=by simp;omega
  have d1:items.toList.drop i= []:=by simp;omega
  rw[d1]at hx
  have hq:q= []:=by
   cases h2:items2.toList.drop i<;>(rw[h2]at hx;unfold bD at hx;exact hx)
  subst hq;refine wpAny_bind (bc hl (wpAny_bind (bc hb ?_)));show wpAny _ _ (match (items[i]?,items2[i]?)with|(some x,some y)=>_|_=>_) _ _ _
  rw[e1];refine wpAny_bind (bc hl (wpAny_bind (bc hb ?_)));exact wpAny_pure h
 |succ k g=>
  intro i q hk prog w A R s h;obtain⟨hl,hb,hx,h⟩:=h;have hi:i < items.size:=by omega
  have d1:items.toList.drop i=items[i]::items.toList.drop (i+1):=by
   rw[List.drop_eq_getElem_cons (by simpa using hi)]
   simp
  refine wpAny_bind (bc hl (wpAny_bind (bc hb ?_)));show wpAny _ _ (match (items[i]?,items2[i]?)with|(some x,some y)=>_|_=>_) _ _ _
  rw[d1]at hx;by_cases f:i < items2.size
  . have d:items2.toList.drop i=items2[i]::items2.toList.drop (i+1):=by
     rw[List.drop_eq_getElem_cons (by simpa using f)]
     simp
    rw[d]at hx;rw[zQ hi,zQ f]
    cases q with
    |nil=>exact hx.elim
    |cons p q=>
     obtain⟨e,lo⟩:=p;obtain⟨he,a,c⟩:=hx;refine wpAny_bind (he prog w _ _ ?_)
     cases e with
     |true=>
      refine wpAny_pure ⟨plainId_quiet MeetsSeq3.plain_eq_loop _,codeAny_builtin MeetsSeq3.entry_eq_loop ?_⟩;rw[Around.under_plainId MeetsSeq3.plain_eq_loop _];have:=g (i+1) q (by omega) prog w A R s ⟨hl,hb,c rfl,h⟩
      exact this
     |false=>
      refine wpAny_bind (bc hl (wpAny_bind (bc hb ?_)));show wpAny _ _ (match items[i]?,items2[i]?,CmpOp.Lt with|some _,some _,CmpOp.Eq=>_|some _,some _,CmpOp.NotEq=>_|some x,some y,x_1=>_|_,_,_=>_) _ _ _
      rw[zQ hi,zQ f];refine wpAny_bind (a rfl prog w _ _ ?_);exact wpAny_pure h
  . have e2:items2[i]?=none:=by simp;omega
    have d:items2.toList.drop i= []:=by simp;omega
    rw[d]at hx;have hq:q= []:=by unfold bD at hx;exact hx
    subst hq;rw[zQ hi,e2];refine wpAny_bind (bc hl (wpAny_bind (bc hb ?_)));exact wpAny_pure h
theorem kg(l b:Addr)(items items2:Array Value)(n n2:Nat)(q:List (Bool×Bool)):
 Meets (Builtin.«list.__lt__» ⟨[.ref l, .ref b],[]⟩)
  (fun A R s=>s.heap.get? l=some {cls:= .type "list",data:= .seq items n}/\s.heap.get? b=some {cls:= .type "list",data:= .seq items2 n2}/\
   bD A.in1 s items.toList items2.toList q/\R (.ok (.ret (.bool (lexV (decide (items.size < items2.size)) q)))) s):=by
 intro prog w A R s h;obtain⟨hl,hb,hx,h⟩:=h;refine wpAny_bind (m:=slotArgs _ _ _) (wpAny_pure ?_);refine wpAny_bind (wpAny_isInstance (T:="list") (b:=true) ⟨_,hb,rfl⟩ (by first|exact AutoSeq1.sub_list_list|exact PySem.F.sub_list_list|rfl) ?_)
 refine wpAny_pure ⟨plainId_quiet MeetsSeq3.plain_eq_loop _,codeAny_builtin MeetsSeq3.entry_eq_loop ?_⟩;rw[Around.under_plainId MeetsSeq3.plain_eq_loop _];exact jp l b items items2 n n2 _ 0 q rfl prog w A R s ⟨hl,hb,by simpa using hx,h⟩
open PySem PySem.Spec PySem.W PyProof.Rows L2 Srt
section
variable{X:Cx}
end
open PySem PySem.Spec PySem.W PyProof.Rows L2 Srt
theorem oK{A:Around}{s:Shared}{l b:Addr}{items items2:Array Value}{n n2:Nat}{q:List (Bool×Bool)}(hl:s.heap.get? l=some {cls:= .type "list",data:= .seq items n})(hb:s.heap.get? b=some {cls:= .type "list",data:= .seq items2 n2})(hu:A.units < cLine)(hx:bD A.in1 s items.toList items2.toList q):LtAt A s (.ref l) (.ref b) (lexV (decide (items.size < items2.size)) q):=by
 intro prog w E Q h
 exact richCompare_meets_room (op:= .Lt) ⟨_,hl,rfl⟩ ⟨_,hb,rfl⟩ PySem.F.slot_list_lt PySem.F.entry_list_lt (PySem.F.args_list_lt_2 _ _) (kg l b items items2 n n2 q)
  ⟨hl,hb,hx,show Value.bool (lexV (decide (items.size < items2.size)) q)≠Value.notImplemented/\Q (.bool (lexV (decide (items.size < items2.size)) q)) s from⟨(fun x=>nomatch x),h⟩⟩ hu
variable{X:Cx}
def rLt2:R2:=fun x y H Q=>∃(l b:Addr) (u v:Int),x= .ref l/\y= .ref b/\H l=some (.lst [.int u, .int v])/\H b=some (.lst [.int 0, .int 0])/\Q (.bl (decide (u < 0\/(u=0/\v < 0)))) H
theorem wz(hu:X.A.units+50 < cLine):OpR X (compareOp .Lt) rLt2:=by
 intro pins s σ H x y vx vy Q I rx ry h;obtain⟨l,b,u,v,rfl,rfl,hl,hb,q⟩:=h;cases rx;cases ry;obtain⟨its,n,r,e,z⟩:=I.lst hl;obtain⟨f,n2,r2,e2,z2⟩:=I.lst hb;have g:X.A.in1.units+40+1 < cLine:=by show X.A.units+1+40+1 < cLine;omega
 have at_:∀a c:Int,TrsAt H [.int a, .int c] [.int a, .int c]:=fun a c=> .cons (by unfold TrAt;rfl) (.cons (by unfold TrAt;rfl) .nil)
 have j:∀a c:Int,Cm (.int a) (.int c):=fun a c=>by unfold Cm;trivial
 have i:Cms [.int u, .int v] [.int 0, .int 0]:=by
  unfold Cms;cases k:Tre.eqT (.int u) (.int 0)
  . exact .inr ⟨rfl,j _ _⟩
  . refine .inl ⟨rfl,?_⟩;unfold Cms;cases k2:Tre.eqT (.int v) (.int 0)
    . exact .inr ⟨rfl,j _ _⟩
    . exact .inl ⟨rfl,by unfold Cms;trivial⟩
 have hx:=fH (A:=X.A.in1) I g (fun d m cc p a2 b1 b2=>fZ I 40 d m cc p a2 b1 b2 g) (by simp[Trs.depth,Tr.depth]) (.inl (by simp[Trs.pure,Tr.pure])) i (at_ u v) (at_ 0 0) r r2
 have:=oK (A:=X.A) e e2 (by omega) (by simpa using hx)
 have l2:=r.length;have t:=r2.length
 have ev:lexV (decide (its.toArray.size < f.toArray.size)) (qs [.int u, .int v] [.int 0, .int 0])=decide (u < 0\/(u=0/\v < 0)):=by
  have o:decide (its.toArray.size < f.toArray.size)=decide (([.int u, .int v]:List Tr).length < ([.int 0, .int 0]:List Tr).length):=by
   rw[z9,z9,<-l2,<-t];rfl
  rw[o];refine aX ?_;rw[dS,decide_eq_true_iff];simp[codes,code,LtCs,LtC]
 rw[ev]at this;exact this X.prog X.w X.xe _ ⟨.bl _,H,I,rfl,q⟩
end Tre
namespace K39
open PySem L2 Mth Tre Wd Su Tw Fm
noncomputable def gcn(scs:List Int)(cs:List (Nat×Int)):Int:=gF 0 (cs.map fun p=>p.2*scs.getD p.1 0)
noncomputable def wts(scs:List Int)(cs:List (Nat×Int)):List (Nat×Fr):=cs.map fun p=>(p.1,wf scs (gcn scs cs) p)
def Ngv(n:Nat)(T:Wg.Tb)(i:Nat):Prop:=T.ln i n < 0\/(T.ln i n=0/\T.ln i (n+1) < 0)
def tS(H H':Hp)(l:Addr)(ws2:List V)(us2:List Tr)(wl:List (Nat×Fr)):Prop:=
 H' l=some (.lst ws2)/\TrsAt H' ws2 us2/\us2.Perm (wl.map wT)/\∀(i j:Nat) (t u:Tr),i<=j->us2[i]?=some t->us2[j]?=some u->ltT u t=false
theorem Okt.head{m n:Nat}{L:Nat->Nat->Int}{T:Wg.Tb}(h:Okt m n L T){i c:Nat}(hi:i < m)(hs:T.sd i < m)(hc:c < n)(z:T.ln i c≠0):T.hd c < m:=
 Classical.byContradiction fun y=>z (h.st c hc hc (by omega) i hi hs)
theorem Wb.cnts{m n C:Nat}{L:Nat->Nat->Int}{scs:List Int}{T:Wg.Tb}(h:Wb m n L scs C)(O:Okt m n L T){i:Nat}(hi:i < m)(hs:T.sd i < m):∀p∈cnt n T i,p.1 < m/\p.2.natAbs<=C:=by
 obtain⟨b1,b2⟩:=h.bnd O.inv O.pm;intro p mp;unfold cnt at mp;rcases zc.mp mp with rfl|mp
 . exact⟨hs,b1⟩
 . obtain⟨c,hc,hz,rfl⟩:=jj mp;refine⟨O.head hi hs hc hz,?_⟩;show(-T.ln i c).natAbs<=C;rw[AA];exact b2 i c hi (by omega)
theorem Wb.gcn{m n C:Nat}{L:Nat->Nat->Int}{scs:List Int}{T:Wg.Tb}(h:Wb m n L scs C)(sl:scs.length=m)(O:Okt m n L T){i:Nat}(hi:i < m)(hs:T.sd i < m):0 < K39.gcn scs (cnt n T i)/\(K39.gcn scs (cnt n T i)).natAbs<=C*C:=by
 obtain⟨b1,b2⟩:=h.bnd O.inv O.pm;unfold K39.gcn cnt;simp only[zj,gF]
 have b:scs.getD (T.sd i) 0∈scs:=by
  rw[zd,yZ (by omega)]
  exact A7 _
 obtain⟨g,s1⟩:=h.sc _ b;have c:0 < T.bot*scs.getD (T.sd i) 0:=Ax O.inv.pos g
 have e:(Int.gcd 0 (T.bot*scs.getD (T.sd i) 0):Int)=T.bot*scs.getD (T.sd i) 0:=by
  rw[Int.gcd_zero_left];omega
 rw[e];obtain⟨f,d⟩:=xD (a:=(hcs n T i).map fun p=>p.2*scs.getD p.1 0) c;refine⟨f,zh d ?_⟩;rw[zM];exact AI b1 s1
theorem big2{C:Nat}{x:Int}(h:x.natAbs<=C*C)(hb:C < lim):Big x:=by
 exact zg h (zg (AI (Aj hb) (Aj hb)) (zg (Nat.le_of_eq (Nat.pow_add 2 2600 2600).symm) (AB (by decide) (by decide))))
section
variable{P:Program}{w:World}{K:PySem.W.Frag}{mg:Str->Option Value}{base:Heap}{T0:Addr}
def qg:Sp:=fun vs H Q _=>∃(D:TA) (m n C:Nat) (scs:List Int) (us:List Tr) (ws:List V) (pl:Addr) (ls:List V) (L:Nat->Nat->Int) (T:Wg.Tb) (i:Nat),vs= [.ref D.a, .int (i:Int)]/\Tk K D.C/\Tab D m n scs us ws pl ls T H/\Wb m n L scs C/\Okt m n L T/\i < m/\T.sd i < m/\n < 60/\
 ∀l H' ws2 us2,H l=none->Same H H'->tS H H' l ws2 us2 (wts scs (cnt n T i))->Q (.ref l) H'
theorem scWag:FnScope ["table","at","counts","shared","place","count"] ["table","at"] (ah sWag):= .of
theorem wF{f fC:Addr}{fd fdC:FuncData}(F:Fun K "weights_against" "weights_against" sWag f fd)(B:Blt mg)(zH:Cl P w K mg base 1 "head_counts" ["table","line"] (qH (K:=K)))(FC:Fun K "common_divisor" "common_divisor" sCd fC fdC)(bC:Binds K fdC ["one","other"] [])(mC:mg "common_divisor"=some (.ref fC))(zW:Cl P w K mg base 3 "weights_by" ["table","counts","bottom"] (qe (K:=K))):
 FnOk P w K mg base CX0 4 f fd ["table","at"] (qg (K:=K)):=by
 have GC:FnOk P w K mg base CX0 1 fC fdC ["one","other"] spCd:=rW FC B;refine F.okb scWag fun vs H Q E h=>?_;refine hZq fun q_ e_=>?_;obtain⟨D,m,n,C,scs,us,ws,pl,ls,L,T,i,rfl,hk,z,g,hO,hi,hs,bg,k⟩:=h;subst e_;refine⟨rfl,fun bj A outer s hr=>?_⟩;have a1:Room 1 _:=hr.mono (by decide)
 refine⟨_,ad (psA 2 scWag.nd (am dC (c5 (a0 (aY (a0 (ao aA (aN (pv 0) rfl) (pv 1) fun _ _=>rfl) (a0 (aN (pv 0) rfl) aa))) aa)) (ak zH a1 (a0 (pv 0) (a0 (ao aA (aN (pv 0) rfl) (pv 1) fun _ _=>rfl) aa)))))
  (ad (psA 3 scWag.nd a9)
  (ad (bX PassesOwn.never rfl (bf (pv 2)) (bh rfl (aq (pgA 4 scWag.nd) (aq (pgA 5 scWag.nd) aV)))
   (ai (psA 3 scWag.nd (dR GC a1 rfl mC FC.kp bC .nil gX (a0 (pv 3) (a0 (am aR (pv 5) (ao aA (aN (pv 0) rfl) (pv 4) fun _ _=>rfl)) aa))))))
  (ai (az (ak zW hr (a0 (pv 0) (a0 (pv 2) (a0 (pv 3) aa)))))))),?_⟩
 have bb:(20000:Nat)<=sizeLine:=by decide +kernel
 have n64:=z.n64;have sl:=z.sl;refine hZq fun q_ e_=>?_;obtain⟨q,eq,hq,_,_⟩:=z.ro.2 i hi;obtain⟨b1,b2⟩:=g.bnd hO.inv hO.pm;subst e_;refine⟨_,rfl,D.a,D.C,D.dx,_,_,rfl,z.ob,hk.cls,hk.nd,rfl,_,rfl,D.pss,_,(i:Int),_,rfl,rfl,SqL.of z.sd,aI (iH hi),_,rfl,D.a,D.C,D.dx,_,_,rfl,z.ob,hk.cls,hk.nb,rfl,two,fun t nt=>?_⟩;have sT:=ae (o:= .tup [.int (T.sd i:Nat), .int T.bot]) nt;refine⟨(by show 1<=sizeLine;decide),fun l1 a4=>?_⟩
 have y:=ae (o:= .lst [.ref t]) a4;have r:=(z.same sT).same y;refine⟨_,rfl,_,rfl,D.a,D.C,D.dx,_,_,rfl,r.ob,hk.cls,hk.nl,rfl,_,rfl,pl,_,(i:Int),_,rfl,rfl,SqL.of r.li,aI eq,?_⟩;refine⟨D,m,n,scs,us,ws,pl,ls,T,i,q,rfl,hk,r,y _ _ (sT _ _ hq),fun lh H2 wh bw s2 a5 aC=>?_⟩;have a3:=aC.len;rw[yY]at a3;have bi:=nG (n:=n) (T:=T) (i:=i);refine⟨l1,lh,[.ref t],wh,rfl,rfl,s2 _ _ a8,a5,by show 1+wh.length<=sizeLine;omega,fun lc a2=>?_⟩
 have s3:=ae (o:= .lst ([.ref t]++wh)) a2;have v:=(r.same s2).same s3;have d:Same H (upd H2 lc (.lst ([.ref t]++wh))):=((sT.trans y).trans s2).trans s3
 have e:TrsAt (upd H2 lc (.lst ([.ref t]++wh))) ([.ref t]++wh) ((cnt n T i).map cT):=by
  unfold cnt;rw[zj];refine .cons ?_ (aC.mono (Kd.of_same s3));exact cK (a:= .int (T.sd i:Nat)) (b:= .int T.bot) (s3 _ _ (s2 _ _ (y _ _ a8))) at_i at_i
 obtain⟨H3,aT⟩:∃H3,H3=upd H2 lc (.lst ([.ref t]++wh)):=⟨_,rfl⟩;have u:H3 lc=some (.lst ([.ref t]++wh)):=by rw[aT];exact a8
 rw[<-aT]at e v d ⊢;obtain⟨wc,a6⟩:∃wc,wc=([.ref t]++wh:List V):=⟨_,rfl⟩;rw[<-a6]at u e;have au:=e.len;rw[yY]at au;have ac:=g.cnts hO hi hs;obtain⟨g0,g1⟩:=g.gcn sl hO hi hs;refine⟨_,rfl,lc,rfl,⟨_,SqL.of u⟩,?_⟩;refine eY (xs:=wc) (fun j σ H'=>H'=H3/\∃v4 v5:Option V,σ= [some (.ref D.a),some (.int (i:Int)),some (.ref lc),some (.int (gF 0 (((cnt n T i).take j).map fun p=>p.2*scs.getD p.1 0))),v4,v5]) ⟨rfl,none,none,rfl⟩ (fun j σ H' _ p=>by rw[p.1];exact SqL.of u) ?_ ?_
 . intro j x σ H1 ex z_;refine hZq fun q_ e_=>?_;obtain⟨rfl,v4,v5,rfl⟩:=z_;obtain⟨t',et,ht⟩:=e.get' ex;rw[z7]at et;obtain⟨⟨pc,c⟩,ep,rfl⟩:=zf.mp et;obtain⟨rf,x1,y1,rfl,a7,hx,hy⟩:=bL ht;unfold TrAt at hx hy;subst hx hy;obtain⟨pm,cb⟩:=ac _ (za ep)
   have af:scs[pc]?=some (scs.getD pc 0):=by
    rw[zd,yZ (show pc < scs.length by omega)]
    rfl
   obtain⟨s0,s1⟩:=g.sc _ (za af);subst e_;refine⟨rf,_,rfl,SqT.of a7,rfl,_,_,rfl,_,_,rfl,rfl,?_⟩;refine⟨_,rfl,_,rfl,_,rfl,D.a,D.C,D.dx,_,_,rfl,v.ob,hk.cls,hk.ns,rfl,_,rfl,D.psc,_,(pc:Int), .int (scs.getD pc 0),rfl,rfl,SqL.of v.sc,aI (by rw[z7,af];rfl),c,_,rfl,rfl,⟨cn cb g.big,cn s1 g.big⟩,_,_,rfl,?_⟩
   refine⟨rfl,some (.int (pc:Int)),some (.int c),?_⟩;rw[aD ep,zu,xE];rfl
 . intro σ H1 z_;refine hZq fun q_ e_=>?_;obtain⟨rfl,v4,v5,rfl⟩:=z_;subst e_;rw[au,zx];refine⟨_,rfl,_,rfl,_,rfl,D,m,n,scs,us,ws,pl,ls,T,lc,wc,cnt n T i,gcn scs (cnt n T i),rfl,hk,v,u,e,fun p mp=>⟨(ac p mp).1,cn (ac p mp).2 g.big⟩,fun x mx=>cn (g.sc x mx).2 g.big,g0,big2 g1 g.big,?_,fun l H' ws2 us2 nl s4 h1 h2 h3 h4=>?_⟩
   . unfold cnt;rw[zq];omega
   . exact k l H' ws2 us2 (d.free nl) (d.trans s4) ⟨h1,h2,h3,h4⟩
def ButY(T0:Addr)(D:TA)(H H':Hp):Prop:=∀x o,x≠T0->x≠D.a->x≠D.pss->x≠D.ph->H x=some o->H' x=some o
theorem ButY.trans{T0:Addr}{D:TA}{H H1 H2:Hp}(a:ButY T0 D H H1)(b:ButY T0 D H1 H2):ButY T0 D H H2:=fun x o h0 h1 h2 h3 e=>b x o h0 h1 h2 h3 (a x o h0 h1 h2 h3 e)
theorem ButY.of_same{T0:Addr}{D:TA}{H H':Hp}(s:Same H H'):ButY T0 D H H':=fun x o _ _ _ _ e=>s _ _ e
theorem ButY.of_x{T0:Addr}{D:TA}{H H':Hp}(s:ButX D H H'):ButY T0 D H H':=fun x o _ h1 h2 h3 e=>s x o h1 h2 h3 e
theorem ButY.of_t{T0:Addr}{D:TA}{H H':Hp}(s:ButT T0 H H'):ButY T0 D H H':=fun x o h0 _ _ _ e=>s x o h0 e
theorem Lm.same{T0:Addr}{H H':Hp}(s:Same H H')(h:Lm T0 H):Lm T0 H':=by
 rcases h with h|⟨c,h,h2⟩
 . exact .inl (s _ _ h)
 . exact .inr ⟨c,s _ _ h,s _ _ h2⟩
theorem Lm.butX{T0:Addr}{D:TA}{m n:Nat}{scs:List Int}{us:List Tr}{ws:List V}{pl:Addr}{ls:List V}{T:Wg.Tb}{H H':Hp}(t:Tab D m n scs us ws pl ls T H)(b:ButX D H H')(h:Lm T0 H):Lm T0 H':=by
 have k:∀ {x:Addr} {o:HO},H x=some o->(∀C dx fs,o≠ .ins C dx fs)->(∀xs,o≠ .lst xs)->H' x=some o:=fun{x o} e h1 h2=>by
  refine b x o (fun z=>?_) (fun z=>?_) (fun z=>?_) e
  . rw[z,t.ob]at e;exact h1 _ _ _ (ze e).symm
  . rw[z,t.sd]at e;exact h2 _ (ze e).symm
  . rw[z,t.hd]at e;exact h2 _ (ze e).symm
 rcases h with h|⟨c,h,h2⟩
 . exact .inl (k h (by intro a b c z;cases z) (by intro a z;cases z))
 . exact .inr ⟨c,k h (by intro a b c z;cases z) (by intro a z;cases z),k h2 (by intro a b c z;cases z) (by intro a z;cases z)⟩
theorem Lm.tbl{T0:Addr}{H:Hp}(h:Lm T0 H):∃ps,H T0=some (.tbl ps):=h.tb
theorem rZ{m:Nat}{f:Nat->Nat}:nv (Wg.ls m f)=(Wg.ls m fun i=>((f i:Nat):Int)).map V.int:=by
 unfold nv Wg.ls;rw[AG,AG];rfl
theorem ge{m i:Nat}{f:Nat->Int}(h:i < m):(Wg.ls m f).getD i 0=f i:=by
 rw[zd,Wg.ls_at h];rfl
theorem cut2{n:Nat}{f:Nat->Int}:cutV ((Wg.ls (n+2) f).map V.int) (some (-2)) none= [.int (f n), .int (f (n+1))]:=by
 have l:((Wg.ls (n+2) f).map V.int).length=n+2:=by rw[yY,Wg.ls_len]
 have h1:HT.sIx (n+2) 0 (some (-2))=n:=by
  show(if (-2:Int) < 0 then((-2:Int)+((n+2:Nat):Int)).toNat else min (-2:Int).toNat (n+2))=n;rw[if_pos (by decide)]
  omega
 have h2:HT.sIx (n+2) (n+2) none=n+2:=rfl;unfold cutV;rw[l,h1,h2];refine AO fun i=>?_;rw[List.getElem?_take,List.getElem?_drop,z7];by_cases hi:i < 2
 . rw[if_pos (by omega),Wg.ls_at (by omega)]
   rcases Nat.lt_or_ge i 1 with z|z
   . have:i=0:=by omega
     subst this;rfl
   . have:i=1:=by omega
     subst this;rfl
 . rw[if_neg (by omega)]
   exact(A8 (by simp;omega)).symm
instance {n:Nat} {T:Wg.Tb} {i:Nat}:Decidable (Ngv n T i):=by unfold Ngv;infer_instance
def qA(T0:Addr):Sp:=fun vs H Q _=>∃(D:TA) (m n C:Nat) (scs:List Int) (us:List Tr) (ws:List V) (pl:Addr) (ls:List V) (L:Nat->Nat->Int) (T:Wg.Tb),vs= [.ref D.a]/\Tk K D.C/\Tab D m n scs us ws pl ls T H/\Wb m n L scs C/\Okt m n L T/\Lm T0 H/\n < 60/\
 (∀pl' ls' T' H',ButY T0 D H H'->Lm T0 H'->Tab D m n scs us ws pl' ls' T' H'->Okt m n L T'->(∀i,i < m->T'.sd i < m->¬Ngv n T' i)->Q .non H')/\
 ∀T' i l H' ws2 us2,ButY T0 D H H'->Lm T0 H'->Okt m n L T'->i < m->T'.sd i < m->Ngv n T' i->(∀c,c < n->T'.ln i c<=0)->tS H H' l ws2 us2 (wts scs (cnt n T' i))->l≠D.pss->l≠D.ph->(∀xs,H l≠some (.lst xs))->Q (.ref l) H'
theorem scRef:FnScope ["table","below","at","line","column"] ["table"] (ah sRef):= .of
theorem wR{f:Addr}{fd:FuncData}(F:Fun K "refuted" "refuted" sRef f fd)(B:Blt mg)(zS:Cl P w K mg base 2 "slack_lines" ["table"] (jS (K:=K)))(zL:Cl P w K mg base 2 "least_by" ["numbers","places"] (qE (K:=K) T0))(zW:Cl P w K mg base 4 "weights_against" ["table","at"] (qg (K:=K)))(zT:Cl P w K mg base 2 "turn" ["table","at","column"] (ml (K:=K))):
 FnOk P w K mg base CX0 5 f fd ["table"] (qA (K:=K) T0):=by
 refine F.okb scRef fun vs H Q E h=>?_;refine hZq fun q_ e_=>?_;obtain⟨D,m,n,C,scs,us,ws,pl,ls,L,T,rfl,hk,hT,hW,hO,d7,db,kn,kw⟩:=h;subst e_;refine⟨rfl,fun d5 A outer s hr=>?_⟩;have a5:Room 2 _:=hr.mono (by decide)
 have cb:(A.deeper (PyProof.Rows.envOfC (Str.ofString "refuted") (ah sRef) s.heap.objs.size f d5)).units+50 < cLine:=by have:=hr.units;omega
 have d6:(["at","table"]:List Str).Nodup:=by decide +kernel
 have b8:(["column","line"]:List Str).Nodup:=by decide +kernel
 refine⟨_,ai (gQ PassesOwn.never (cD eV)
  (ad (gc (i:=1) (NC:= ["at","table"]) (mp:= [none,some 0]) rfl scRef.nd rfl rfl rfl (gR (K:=K) rfl (ak zS a5 (a0 (pv 0) aa)))
   (fun _ _ _ _ _=>pgA 0 d6) (fun _ _ _ _ _=>cz (ax (wz cb) (jW (r:=rSlL K) mG (ao (r:=rIxL K) aA (c9 (K:=K) rfl (pv 1) rfl) (pv 0) fun _ _=>rfl) (mN (cg bu a9)) mO) (c5 (a0 a9 (a0 a9 aa))) (ay _))) (fun _ _ _ _ _=>pv 0))
  (ad (psA 2 scRef.nd (ak zL a5 (a0 (aN (pv 0) rfl) (a0 (pv 1) aa))))
  (ad (bG (ax rR (pv 2) lD (ay _)) (ai (az lD)) aO)
  (ad (psR 3 scRef.nd (ao aA (aN (pv 0) rfl) (pv 2) fun _ _=>rfl))
  (ad (psA 4 scRef.nd (ak zL a5 (a0 (aN (pv 0) rfl) (a0 (aQ (NC:= ["column","line"]) (mp:= [none,some 3]) rfl (bZ rfl B.ra (a0 (av ar rfl B.le PySem.boot_len (a0 (aN (pv 0) rfl) aa)) aa))
   (fun _ _ _ _ _=>pgA 0 b8) (fun _ _ _ _ _=>cz (ax cr (ao (r:=rIxL K) aA (pv 1) (pv 0) fun _ _=>rfl) a9 (ay _))) (fun _ _ _ _ _=>pv 0)) aa))))
  (ad (bG (ax rR (pv 4) lD (ay _)) (ai (az (ak zW hr (a0 (pv 0) (a0 (pv 2) aa))))) aO)
  (ai (cA (ak zT a5 (a0 (pv 0) (a0 (pv 2) (a0 (pv 4) aa))))))))))))),?_⟩
 have ee:(20000:Nat)<=sizeLine:=by decide +kernel
 have m64:=hT.m64;have n64:=hT.n64;have fl:∀b pl,(flds D pl b).lookup (Str.ofString "lines")=some (.ref pl):=fun b pl=>rfl;obtain⟨MM,ej⟩:∃MM:Int,MM=(C:Int)+1:=⟨_,rfl⟩
 refine⟨fun k σ H'=>(∃v1 v2 v3 v4,σ= [some (.ref D.a),v1,v2,v3,v4])/\∃pl' ls' T',ButY T0 D H H'/\Lm T0 H'/\Tab D m n scs us ws pl' ls' T' H'/\Okt m n L T'/\∃Tf rf qf J,Wg.Rn m n (Wg.V0 m L) (Wg.R0 L) MM Tf rf qf J/\Tf J=T'/\k=2^(m+n) - J,
  ⟨2^(m+n) - 0,⟨none,none,none,none,rfl⟩,pl,ls,T,fun x o _ _ _ _ e=>e,d7,hT,hO,fun _=>T,fun _=>0,fun _=>0,0,⟨hO.inv,hO.pm,fun j hj=>absurd hj (Nat.not_lt_zero _),fun j hj=>absurd hj (Nat.not_lt_zero _)⟩,rfl,rfl⟩,?_⟩
 intro k σ H1 z_;refine hZq fun q_ e_=>?_;obtain⟨⟨v1,v2,v3,v4,rfl⟩,pl',ls',T',bY,c2,tb,O,Tf,rf,qf,J,bI,eT,rfl⟩:=z_;subst e_;refine⟨true,rfl,iteT ?_⟩;refine⟨_,fun σ' H' h=>h,?_⟩;obtain⟨bb,bl⟩:=hW.bnd O.inv O.pm;have cp:∀(p:Nat->Bool),((List.range m).filter p).length<=m:=fun p=>zh (zR _ _) (by rw[zY];exact z4 _)
 have dH:∀(p:Nat->Bool) (j:Nat),((List.range j).filter p).length<=j:=fun p j=>zh (zR _ _) (by rw[zY];exact z4 _)
 refine eF ?_;refine bW rfl ?_;refine⟨_,rfl,D,m,n,scs,us,ws,pl',ls',T',rfl,hk,tb,fun l H2 nl s1 hl=>?_⟩;have b7:=tb.same s1;refine⟨l,rfl,⟨_,SqL.of hl⟩,fun L' nL=>?_⟩;refine eC (xs:=nv (slk m T')) (fun j acc H3=>Same H2 H3/\H3 L'=some (.lst acc)/\acc=nv (((slk m T').take j).filter fun x=>decide (Ngv n T' x))) ⟨ae nL,a8,rfl⟩ (fun j acc H3 p=>SqL.of (p.1 _ _ hl)) ?_ ?_
 . intro j x acc H3 hj ex z_;refine hZq fun q_ e_=>?_;obtain⟨s2,hL,rfl⟩:=z_;unfold nv at ex;rw[z7]at ex;obtain⟨r,er,rfl⟩:=zf.mp ex;obtain⟨rm,rs⟩:=slk_mem.mp (za er);have bj:=b7.same s2;obtain⟨q,eq,hq,_,_⟩:=bj.ro.2 r rm;subst e_;have al:(((slk m T').take j).filter fun x=>decide (Ngv n T' x)).length<=m:=zh (zR _ _) (zh (List.length_take_le' _ _) (cp _));refine⟨_,rfl,D.a,D.C,D.dx,_,_,rfl,bj.ob,hk.cls,hk.nl,fl _ _,_,rfl,pl',_,(r:Int),_,rfl,rfl,SqL.of bj.li,aI eq,2,rfl,_,rfl,q,_,rfl,SqL.of hq,fun p np=>?_⟩;rw[cut2];have sp:=ae (o:= .lst [.int (T'.ln r n), .int (T'.ln r (n+1))]) np;refine⟨two,fun l2 d=>?_⟩;have aC:=ae (o:= .lst [.int 0, .int 0]) d;refine⟨p,l2,_,_,rfl,rfl,aC _ _ a8,a8,_,rfl,?_⟩;by_cases z:Ngv n T' r
   . rw[show decide (T'.ln r n < 0\/(T'.ln r n=0/\T'.ln r (n+1) < 0))=true from decide_eq_true z];refine iteT ?_;refine⟨_,rfl,CompN.mk hj (by unfold nv;rw[yY];omega) (aC _ _ (sp _ _ hL)) ⟨aH nL ((s2.trans sp).trans aC),a8,?_⟩⟩
     rw[aD er,A4];simp[z,nv]
   . rw[show decide (T'.ln r n < 0\/(T'.ln r n=0/\T'.ln r (n+1) < 0))=false from decide_eq_false z];refine iteF ?_;refine CompS.mk hj ⟨(s2.trans sp).trans aC,aC _ _ (sp _ _ hL),?_⟩;rw[aD er,A4];simp[z]
 intro acc H3 z_;refine hZq fun q_ e_=>?_;obtain⟨s2,hL,rfl⟩:=z_;have d8:(nv (slk m T')).length=(slk m T').length:=by unfold nv;rw[yY]
 rw[d8,zx]at hL;have a4:=b7.same s2;have aT:=(c2.same s1).same s2;have c4:ButY T0 D H H3:=bY.trans (.of_same (s1.trans s2));obtain⟨bw,bT⟩:∃bw,bw=(slk m T').filter fun x=>decide (Ngv n T' x):=⟨_,rfl⟩;subst e_;rw[<-bT]at hL;have a3:∀x,x∈bw↔(x < m/\T'.sd x < m)/\Ngv n T' x:=fun x=>by rw[bT,Aa,slk_mem,decide_eq_true_iff]
 refine aj ?_;refine⟨_,rfl,D.a,D.C,D.dx,_,_,rfl,a4.ob,hk.cls,hk.nd,rfl,_,rfl,D.pss,L',Wg.ls m fun i=>((T'.sd i:Nat):Int),bw,rfl,by rw[<-rZ];exact SqL.of a4.sd,SqL.of hL,fun x mx=>by rw[Wg.ls_len];exact((a3 x).mp mx).1.1,aT,fun e0 H4 bt au=>?_,fun r mr lst H4 bt au=>?_⟩
 ·
  obtain⟨d0,bC⟩:=aT.tbl;have t:=a4.butT bC bt;refine aj ?_;refine⟨_,rfl,rfl,_,rfl,?_⟩;rw[decide_eq_true rfl];refine iteT ?_;refine kn pl' ls' T' H4 (c4.trans (.of_t bt)) au t O fun i hi hs z=>?_;have:=(a3 i).mpr ⟨⟨hi,hs⟩,z⟩;rw[e0]at this;cases this
 refine hZq fun q_ e_=>?_;obtain⟨d0,bC⟩:=aT.tbl;have t:=a4.butT bC bt;have dI:=c4.trans (.of_t (D:=D) bt);obtain⟨⟨g,a6⟩,bg⟩:=(a3 r).mp mr;obtain⟨q,eq,hq,_,_⟩:=t.ro.2 r g;subst e_;refine aj ?_;dsimp only;refine bP (fun σ' H'=>H4=H'/\σ'= [some (.ref D.a),some (.ref L'),some (.int (r:Int)),v3,v4]) ?_ fun nx bi=>?_;rotate_left
 . refine⟨_,rfl,rfl,_,rfl,?_⟩;rw[decide_eq_false (by intro z;cases z)]
   exact iteF (bi _ _ ⟨rfl,rfl⟩)
 rintro σ' H' ⟨rfl,rfl⟩;refine⟨_,rfl,D.a,D.C,D.dx,_,_,rfl,t.ob,hk.cls,hk.nl,fl _ _,_,rfl,pl',_,(r:Int),_,rfl,rfl,SqL.of t.li,aI eq,?_⟩;refine aj ?_;refine⟨_,rfl,D.a,D.C,D.dx,_,_,rfl,t.ob,hk.cls,hk.nh,rfl,?_⟩;refine vV ?_;refine bW rfl ?_;refine⟨_,rfl,D.a,D.C,D.dx,_,_,rfl,t.ob,hk.cls,hk.nh,rfl,D.ph,_,rfl, .inl (SqL.of t.hd),(n:Int),by rw[bQ],by omega,by omega,fun L2 bF=>?_⟩
 refine kF (n:=n) (fun j acc H5=>Same H4 H5/\H5 L2=some (.lst acc)/\acc=nv ((List.range j).filter fun c=>decide (0 < T'.ln r c))) ⟨ae bF,a8,rfl⟩ ?_ ?_
 . rintro c acc H5 hc ⟨s5,a1,rfl⟩;rw[Ap];refine⟨_,rfl,_,rfl,q,_,(c:Int),_,rfl,rfl,SqL.of (s5 _ _ hq),aI (fQ (by omega)),_,0,rfl,rfl,_,rfl,?_⟩
   by_cases z:0 < T'.ln r c
   . rw[decide_eq_true z];refine iteT ?_;refine⟨_,rfl,CompN.mk hc (by unfold nv;rw[yY];have:=dH (fun c=>decide (0 < T'.ln r c)) c;omega) a1 ⟨aH bF s5,a8,?_⟩⟩
     rw[A9,A4];simp[z,nv]
   . rw[decide_eq_false z];refine iteF ?_;refine CompS.mk hc ⟨s5,a1,?_⟩;rw[A9,A4];simp[z]
 intro acc H5 z_;refine hZq fun q_ e_=>?_;obtain⟨s5,a1,rfl⟩:=z_;have bB:=t.same s5;have a7:=au.same s5;have cm:=dI.trans (.of_same (D:=D) (T0:=T0) s5);obtain⟨pc,bR⟩:∃pc,pc=(List.range n).filter fun c=>decide (0 < T'.ln r c):=⟨_,rfl⟩;rw[<-bR]at a1;have a2:∀c,c∈pc↔c < n/\0 < T'.ln r c:=fun c=>by rw[bR,Aa,zZ,decide_eq_true_iff]
 obtain⟨ef,cI⟩:=a7.tbl;subst e_;refine⟨D.ph,L2,Wg.ls n fun i=>((T'.hd i:Nat):Int),pc,rfl,by rw[<-rZ];exact SqL.of bB.hd,SqL.of a1,fun x mx=>by rw[Wg.ls_len];exact((a2 x).mp mx).1,a7,fun e0 H6 af v=>?_,fun c mc dj H6 af v=>?_⟩
 ·
  have u:=bB.butT cI af;refine aj ?_;refine⟨_,rfl,rfl,_,rfl,?_⟩;rw[decide_eq_true rfl];refine iteT ?_;refine⟨_,rfl,_,rfl,D,m,n,C,scs,us,ws,pl',ls',L,T',r,rfl,hk,u,hW,O,g,a6,db,fun l2 H7 ws2 us2 d s7 hw=>?_⟩;have cd:ButY T0 D H H6:=cm.trans (.of_t af);refine kw T' r l2 H7 ws2 us2 (cd.trans (.of_same s7)) (v.same s7) O g a6 bg (fun c hc=>?_) hw (fun z=>by rw[z,u.sd]at d;cases d) (fun z=>by rw[z,u.hd]at d;cases d) fun xs z=>?_
  . refine Classical.byContradiction fun y=>?_;have:=(a2 c).mpr ⟨hc,by omega⟩
    rw[e0]at this;cases this
  . by_cases y0:l2=T0
    . subst y0;obtain⟨eg,ed⟩:=v.tbl;rw[ed]at d;cases d
    . have:=cd l2 _ y0 (fun y=>by rw[y,hT.ob]at z;cases z) (fun y=>by rw[y,u.sd]at d;cases d) (fun y=>by rw[y,u.hd]at d;cases d) z
      rw[this]at d;cases d
 . have u:=bB.butT cI af;obtain⟨ac,d2⟩:=(a2 c).mp mc;refine aj ?_;dsimp only;refine bP (fun σ' H'=>H6=H'/\σ'= [some (.ref D.a),some (.ref L'),some (.int (r:Int)),some (.ref q),some (.int (c:Int))]) ?_ fun nx bi=>?_;rotate_left
   . refine⟨_,rfl,rfl,_,rfl,?_⟩;rw[decide_eq_false (by intro z;cases z)]
     exact iteF (bi _ _ ⟨rfl,rfl⟩)
   rintro σ' H' ⟨rfl,rfl⟩;refine⟨_,rfl,_,rfl,_,rfl,D,m,n,scs,us,ws,pl',ls',T',r,c,rfl,hk,u,g,ac,by omega,O.inv.pos,cn bb hW.big,fun a b ha hb=>cn (bl a b ha hb) hW.big,fun dV ec H7 bx d9=>?_⟩
   have vn:∀i,i < m->(Ngv n T' i↔Wg.val n MM T' i < 0):=fun i hi=>by
    unfold Ngv Wg.val;refine Wg.lex_neg ?_ (by omega)
    have:=bl i (n+1) hi (by omega)
    omega
   have S:Wg.Stp m n MM T' r c:=by
    refine⟨g,ac,a6,(vn r g).mp bg,fun i hi hs hv=>?_,d2,fun c' b6 eb=>?_⟩
    . have:=lst i ((a3 i).mpr ⟨⟨hi,hs⟩,(vn i hi).mpr hv⟩);rw[ge g,ge hi]at this;omega
    . have:=dj c' ((a2 c').mpr ⟨b6,eb⟩);rw[ge ac,ge b6]at this;omega
   subst eT;refine hZq fun q_ e_=>?_;obtain⟨ea,d3,d4,c3,e2⟩:=bI.snoc S;subst e_;refine⟨2^(m+n) - (J+1),Nat.sub_lt_sub_left bI.few (Ay J),⟨_,_,_,_,rfl⟩,dV,ec,_,(cm.trans (.of_t af)).trans (.of_x bx),v.butX u bx,d9,⟨Wg.piv_inv O.inv g ac (by omega),O.pm.piv g ac,O.st.piv O.inv g ac a6 (by omega)⟩,ea,d3,d4,J+1,c3,e2,rfl⟩
end
end K39
namespace L2
open PySem PySem.Spec PyProof.Rows
theorem oY{X:Cx}(hc:X.calm=true):bV X (.builtin "max") (fun xs H Q=>∃(p:Addr) (ns:List Int),xs= [.ref p]/\SqL X.K H p (ns.map V.int)/\0 < ns.length/\∀m,m∈ns->(∀x∈ns,x<=m)->Q (.int m) H):=by
 intro pins s σ H xs us Q I r h;obtain⟨p,ns,e,hp,h0,q⟩:=h;subst e
 cases r with
 | @cons _ u _ _ r d=>
  cases d;cases (show u=Value.ref p from r);obtain⟨its,rv,pl,_⟩:=I.list hp;have hi:=lO rv;obtain⟨zs,b⟩:=hi.allInts.items;have hl:=pl.isList;rw[b]at hl
  have c:zs.toList.map (·.1)=ns:=by
   rw[<-nums_intItems,<-b];exact hi.numsOf
  have n:zs.size=ns.length:=by rw[<-c,yY,zO]
  have nat_:∀i,i < zs.size->ns[i]?=some (numAt zs i):=fun i a=>by
   rw[<-c,z7,A5];unfold numAt;rw[zQ a];rfl
  refine max_intList (I.ok.hd hc) hl (by omega) fun v h' tk hv hk=>?_
  obtain⟨t,rfl⟩:=intItems_at hv;obtain⟨b1,b2⟩:=argBest_gt (numAt zs) (zs.size - 1);generalize argBest (fun i j=>decide (numAt zs i > numAt zs j)) (zs.size - 1)=k at*;refine⟨.int (numAt zs k),H,I.kept hk,⟨_,rfl⟩,q _ (za (nat_ k (by omega))) fun x l=>?_⟩
  obtain⟨j,g,f⟩:=Ah l;have:=nat_ j (by omega)
  rw[yZ g,f]at this;rw[ze this];exact b2 j (by omega)
end L2
namespace K39
open PySem L2 Mth Tre Wd Su Tw Fm
theorem oZ{X:Cx}{K:PySem.W.Frag}(hK:X.K=K):bV X (.builtin "len") (fun xs H Q=>∃p ys,xs= [.ref p]/\(SqL K H p ys\/SqT K H p ys)/\Q (.int (ys.length:Int)) H):=by
 subst hK;exact ar
theorem pj{r:R2}{ta tb:TE}{Z:Ends}{σ:L2.St}{H:Hp}(h:ta σ H fun x H1=>tb σ H1 fun y H2=>r x y H2 Z.rt):tRet (tOp r ta tb) Z σ H:=h
noncomputable def lno(m n:Nat)(T:Wg.Tb)(k c:Nat):Int:=(Wg.sumN m fun i=>if T.sd i=k then T.ln i c else 0)+if c < n/\T.hd c=k then T.bot else 0
theorem sy{m n:Nat}{T:Wg.Tb}(P:Wg.Pm m n T){i c:Nat}(hi:i < m):lno m n T (T.sd i) c=T.ln i c:=by
 unfold lno;rw[Wg.sumN_one hi fun j a hne=>if_neg fun e=>hne (P.inj a hi e),if_pos rfl,if_neg fun z=>P.disj hi z.1 z.2.symm,Int.add_zero]
theorem hX{m n:Nat}{T:Wg.Tb}{k c:Nat}(h:∀i,i < m->T.sd i≠k):lno m n T k c=if c < n/\T.hd c=k then T.bot else 0:=by
 unfold lno;rw[Wg.sumN_zero fun i hi=>if_neg (h i hi),Ap]
theorem sG{m n:Nat}{T:Wg.Tb}{k:Nat}{M:Int}:lno m n T k n*M+lno m n T k (n+1)=Wg.pt m n M T k:=by
 unfold lno;rw[if_neg (by omega),if_neg (by omega),Int.add_zero,Int.add_zero]
 unfold Wg.pt;rw[<-Wg.sumN_mulr,<-Wg.sumN_add];refine Wg.sumN_congr fun i hi=>?_;unfold Wg.val;split<;>grind
theorem lM{m n C:Nat}{T:Wg.Tb}{k c:Nat}(P:Wg.Pm m n T)(hb:T.bot.natAbs<=C)(hl:∀i c,i < m->c < n+2->(T.ln i c).natAbs<=C)(hc:c < n+2):(lno m n T k c).natAbs<=C:=by
 by_cases h:∃i,i < m/\T.sd i=k
 . obtain⟨i,hi,rfl⟩:=h;rw[sy P hi];exact hl i c hi hc
 . rw[hX fun i hi e=>h ⟨i,hi,e⟩];split
   . exact hb
   . exact zr _
theorem tO{n:Nat}{f:Nat->Int}:atI ((Wg.ls (n+2) f).map V.int) (-1)=some (.int (f (n+1))):=by
 have l:((Wg.ls (n+2) f).map V.int).length=n+2:=by rw[yY,Wg.ls_len]
 unfold atI
 have:ixN (n+2) (-1)=some (n+1):=by
  unfold ixN;rw[if_neg (by decide),if_pos (by omega)]
  congr 1;omega
 rw[l,this];exact fQ (by omega)
theorem m3{n:Nat}{f:Nat->Int}:atI ((Wg.ls (n+2) f).map V.int) (-2)=some (.int (f n)):=by
 have l:((Wg.ls (n+2) f).map V.int).length=n+2:=by rw[yY,Wg.ls_len]
 unfold atI
 have:ixN (n+2) (-2)=some n:=by
  unfold ixN;rw[if_neg (by decide),if_pos (by omega)]
  congr 1;omega
 rw[l,this];exact fQ (by omega)
theorem rY{H:Hp}:∀ {ps:List Nat},TrsAt H (nv ps) (ps.map fun(p:Nat)=>Tr.int (p:Int))
 | []=> .nil
 |_::_=> .cons at_i rY
theorem tR{k:Nat}:∀ {ps:List Nat},((ps.map fun(p:Nat)=>Tr.int (p:Int)).any fun u=>Tre.eqT u (.int (k:Int)))=decide (k∈ps)
 | []=>by simp
 |p::r=>by
  rw[zj,List.any_cons,tR];unfold Tre.eqT;by_cases e:k=p
  . subst e;simp
  . have:((p:Int)==(k:Int))=false:=by
     rw[beq_eq_false_iff_ne];omega
    rw[this];simp[e]
theorem mem_ls{m:Nat}{f:Nat->Nat}{k:Nat}:k∈Wg.ls m f↔∃i,i < m/\f i=k:=by
 unfold Wg.ls;rw[zJ];constructor
 . rintro⟨i,hi,e⟩;exact⟨i,zZ.mp hi,e⟩
 . rintro⟨i,hi,e⟩;exact⟨i,zZ.mpr hi,e⟩
section
variable{P:Program}{w:World}{K:PySem.W.Frag}{mg:Str->Option Value}{base:Heap}{T0:Addr}
def qC:Sp:=fun vs H Q _=>∃(D:TA) (m n:Nat) (scs:List Int) (us:List Tr) (ws:List V) (pl:Addr) (ls:List V) (T:Wg.Tb) (k:Nat),vs= [.ref D.a, .int (k:Int)]/\Tk K D.C/\Tab D m n scs us ws pl ls T H/\Wg.Pm m n T/\
 ∀q H',Same H H'->H' q=some (.lst ((Wg.ls (n+2) (lno m n T k)).map V.int))->Q (.ref q) H'
theorem yv:FnScope ["table","number"] ["table","number"] (ah sLio):= .of
theorem wV{f:Addr}{fd:FuncData}(F:Fun K "line_of" "line_of" sLio f fd)(B:Blt mg):FnOk P w K mg base CX0 1 f fd ["table","number"] (qC (K:=K)):=by
 refine F.okb yv fun vs H Q E h=>?_;refine hZq fun q_ e_=>?_;obtain⟨D,m,n,scs,us,ws,pl,ls,T,k,rfl,hk,b,hP,q⟩:=h;subst e_;refine⟨rfl,fun af A outer s hr=>?_⟩;have v:(A.deeper (PyProof.Rows.envOfC (Str.ofString "line_of") (ah sLio) s.heap.objs.size f af)).units+50 < cLine:=by have:=hr.units;omega
 have ac:(["head","table","number"]:List Str).Nodup:=by decide +kernel
 refine⟨_,ad (bG (ax (wA v) (pv 1) (aN (pv 0) rfl) (by with_unfolding_all rfl)) (ai (az (ao aA (aN (pv 0) rfl) (gW PySem.F.plainAttrs_list PySem.F.slot_list_index PySem.F.type_list_index oG (aN (pv 0) rfl) (a0 (pv 1) aa)) fun _ _=>rfl))) aO)
  (ai (az (am dC (aQ (NC:= ["head","table","number"]) (mp:= [none,some 0,some 1]) rfl (bf (aN (pv 0) rfl)) (fun _ _ _ _ _=>pgA 0 ac) (fun _ _ _ _ _=>aZ)
   (fun _ _ _ _ _=>dB (ax ci (pv 0) (pv 2) (ay _)) (c9 (K:=K) rfl (pv 1) rfl) a9)) (c5 (a0 a9 (a0 a9 aa)))))),?_⟩
 have aT:(20000:Nat)<=sizeLine:=by decide +kernel
 have n64:=b.n64
 have dep:∀u∈(Wg.ls m T.sd).map fun(p:Nat)=>Tr.int (p:Int),u.depth<=40:=fun u mu=>by
  obtain⟨p,_,rfl⟩:=zJ.mp mu;simp[Tr.depth]
 refine⟨_,rfl,_,rfl,D.a,D.C,D.dx,_,_,rfl,b.ob,hk.cls,hk.nd,rfl,D.pss,_,_, .int (k:Int),rfl, .inl b.sd,rY,at_i,dep,by simp[Tr.pure],_,rfl,?_⟩
 rw[tR,tK];by_cases hm:k∈Wg.ls m T.sd
 . rw[decide_eq_true hm];refine iteT ?_;refine hZq fun q_ e_=>?_;obtain⟨i,hi,e⟩:=mem_ls.mp hm;obtain⟨qr,eq,hq,_,_⟩:=b.ro.2 i hi;subst e_;refine⟨_,rfl,D.a,D.C,D.dx,_,_,rfl,b.ob,hk.cls,hk.nl,rfl,_,rfl,D.a,D.C,D.dx,_,_,rfl,b.ob,hk.cls,hk.nd,rfl, .inl ⟨rfl,_,SqL.of b.sd⟩,_,rfl,D.pss,Wg.ls m fun i=>((T.sd i:Nat):Int),(k:Int),i,rfl,rfl,by rw[<-rZ];exact b.sd,by rw[Wg.ls_at hi,e],fun j hj=>?_,?_⟩
   . rw[Wg.ls_at (by omega)]
     intro z;have z':T.sd j=k:=by have:=ze z;omega
     have:=hP.inj (i:=j) (j:=i) (by omega) hi (z'.trans e.symm)
     omega
   . refine⟨pl,_,(i:Int),_,rfl,rfl,SqL.of b.li,aI eq,?_⟩;refine q qr H (fun _ _ e=>e) ?_;rw[hq];have:Wg.ls (n+2) (T.ln i)=Wg.ls (n+2) (lno m n T k):=Wg.ls_congr fun c hc=>by rw[<-e,sy hP hi]
     rw[<-this]
 . rw[decide_eq_false hm];refine iteF (cC ?_);have g:∀i,i < m->T.sd i≠k:=fun i hi e=>hm (mem_ls.mpr ⟨i,hi,e⟩);dsimp only;refine pj ?_;refine bO rfl ?_;refine⟨_,rfl,D.a,D.C,D.dx,_,_,rfl,b.ob,hk.cls,hk.nh,rfl,D.ph,rfl,⟨_,SqL.of b.hd⟩,fun L nL=>?_⟩;refine bN (xs:=nv (Wg.ls n T.hd)) (fun j acc H'=>Same H H'/\H' L=some (.lst acc)/\acc=(Wg.ls j (lno m n T k)).map V.int/\j<=n) ⟨ae nL,a8,rfl,zr _⟩ (fun j acc H' p=>SqL.of (p.1 _ _ b.hd)) ?_ ?_
   . intro j x acc H' hj ex z_;refine hZq fun q_ e_=>?_;obtain⟨l,t,rfl,_⟩:=z_;subst e_;have d:=hj;rw[bQ]at d;rw[iH d]at ex;cases ex;have au:=b.same l
     have es:(Wg.ls (j+1) (lno m n T k)).map V.int=(Wg.ls j (lno m n T k)).map V.int++ [.int (lno m n T k j)]:=by
      unfold Wg.ls;rw[A9,zu,zu];rfl
     have al:((Wg.ls j (lno m n T k)).map V.int).length < sizeLine:=by rw[yY,Wg.ls_len];omega
     refine⟨_,rfl,_,rfl,rfl,_,rfl,?_⟩;by_cases z:T.hd j=k
     . rw[decide_eq_true (show V.int (T.hd j:Nat)=V.int (k:Int)by rw[z])]
       refine iteT ?_;refine⟨_,rfl,D.a,D.C,D.dx,_,_,rfl,au.ob,hk.cls,hk.nb,rfl,?_⟩;refine CompN.mk hj al t ⟨aH nL l,a8,?_,d⟩;rw[es,hX g,if_pos ⟨d,z⟩]
     . rw[decide_eq_false (show¬V.int (T.hd j:Nat)=V.int (k:Int)from fun e=>z (by have:=V.int.inj e;omega))]
       refine iteF ?_;refine CompN.mk hj al t ⟨aH nL l,a8,?_,d⟩;rw[es,hX g,if_neg fun y=>z y.2]
   . intro acc H2 z_;refine hZq fun q_ e_=>?_;obtain⟨l,t,rfl,_⟩:=z_;subst e_;rw[bQ]at t;refine⟨two,fun l2 aC=>?_⟩;have r:=ae (o:= .lst [.int 0, .int 0]) aC;refine⟨L,l2,_,_,rfl,rfl,r _ _ t,a8,by rw[yY,Wg.ls_len];show n+2<=sizeLine;omega,fun p np=>?_⟩
     refine q p _ ((l.trans r).trans (ae np)) ?_;rw[a8]
     have es:(Wg.ls (n+2) (lno m n T k)).map V.int=(Wg.ls n (lno m n T k)).map V.int++ [.int (lno m n T k n), .int (lno m n T k (n+1))]:=by
      unfold Wg.ls;rw[A9,A9,zu,zu,zu,zu,List.append_assoc];rfl
     rw[es,hX (c:=n) g,hX (c:=n+1) g,if_neg (by omega),if_neg (by omega)]
def Rwl(H:Hp)(ls:List V)(n k:Nat)(f:Nat->Nat->Int):Prop:=ls.length=k/\∀j,j < k->∃q,ls[j]?=some (.ref q)/\H q=some (.lst ((Wg.ls (n+2) (f j)).map V.int))
def qp:Sp:=fun vs H Q _=>∃(D:TA) (m n:Nat) (scs:List Int) (us:List Tr) (ws:List V) (pl:Addr) (ls:List V) (T:Wg.Tb),vs= [.ref D.a]/\Tk K D.C/\Tab D m n scs us ws pl ls T H/\Wg.Pm m n T/\
 ∀l ls' H',Same H H'->H' l=some (.lst ls')->Rwl H' ls' n n (fun j=>lno m n T (m+j))->Q (.ref l) H'
theorem yq:FnScope ["table"] ["table"] (ah sTli):= .of
theorem wL{f:Addr}{fd:FuncData}(F:Fun K "term_lines" "term_lines" sTli f fd)(B:Blt mg)(zL:Cl P w K mg base 1 "line_of" ["table","number"] (qC (K:=K))):
 FnOk P w K mg base CX0 2 f fd ["table"] (qp (K:=K)):=by
 refine F.okb yq fun vs H Q E h=>?_;refine hZq fun q_ e_=>?_;obtain⟨D,m,n,scs,us,ws,pl,ls,T,rfl,hk,b,hP,q⟩:=h;subst e_;refine⟨rfl,fun ac A outer s hr=>?_⟩;have p:(["number","table"]:List Str).Nodup:=by decide +kernel
 refine⟨_,ai (az (aQ (NC:= ["number","table"]) (mp:= [none,some 0]) rfl (bZ rfl B.ra (a0 (av ar rfl B.le PySem.boot_len (a0 (aN (pv 0) rfl) aa)) aa)) (fun _ _ _ _ _=>pgA 0 p) (fun _ _ _ _ _=>aZ)
  (fun _ _ _ _ _=>ak zL hr (a0 (pv 1) (a0 (am aS (av (oZ (K:=K) rfl) rfl B.le PySem.boot_len (a0 (c9 (K:=K) rfl (pv 1) rfl) aa)) (pv 0)) aa))))),?_⟩
 have x:(20000:Nat)<=sizeLine:=by decide +kernel
 have n64:=b.n64;have wl:=b.tt.len;have ul:=b.ul;have sl:=b.sl;refine u9 ?_;refine bO rfl ?_;refine⟨_,rfl,D.a,D.C,D.dx,_,_,rfl,b.ob,hk.cls,hk.nt,rfl,D.pt,_,rfl, .inl (SqL.of b.tm),(n:Int),by rw[wl,ul],by omega,by omega,fun L nL=>?_⟩
 refine lT (n:=n) (fun j acc H'=>Same H H'/\H' L=some (.lst acc)/\acc.length=j/\∀i,i < j->∃z,acc[i]?=some (.ref z)/\H' z=some (.lst ((Wg.ls (n+2) (lno m n T (m+i))).map V.int))/\z≠L) ⟨ae nL,a8,rfl,fun i hi=>absurd hi (Nat.not_lt_zero _)⟩ ?_ ?_
 . intro j acc H' r z_;refine hZq fun q_ e_=>?_;obtain⟨g,k,al,hz⟩:=z_;subst e_;rw[Ap];have c:=b.same g;refine⟨_,rfl,_,rfl,D.a,D.C,D.dx,_,_,rfl,c.ob,hk.cls,hk.ns,rfl,D.psc,_,rfl, .inl (SqL.of c.sc),_,rfl,_,_,rfl,rfl,D,m,n,scs,us,ws,pl,ls,T,m+j,?_,hk,c,hP,fun z H3 l u=>?_⟩
   . rw[yY,sl];simp
   . have nz:z≠L:=fun y=>by
      have h1:=l _ _ k;rw[y,h1]at u;have e4:=HO.lst.inj (ze u);have l4:=congrArg List.length e4
      have h0:∀i,acc[i]?≠some (V.int (lno m n T (m+j) i)):=fun i hi=>by
       have o:i < j:=by rw[<-al];exact(zb.mp hi).1
       obtain⟨z',d,_⟩:=hz i o;rw[d]at hi;cases hi
      have:=h0 0;rw[e4,fQ (by omega)]at this
      exact this rfl
     refine CompN.mk r (by omega) (l _ _ k) ⟨aH nL (g.trans l),a8,by rw[zK,al];rfl,fun i hi=>?_⟩
     rcases Nat.lt_or_ge i j with h|h
     . refine hZq fun q_ e_=>?_;obtain⟨z',d,t,v⟩:=hz i h;subst e_;exact⟨z',by rw[List.getElem?_append_left (by omega)];exact d,by rw[ag v];exact l _ _ t,v⟩
     . have e:i=j:=by omega
       subst e;exact⟨z,by rw[List.getElem?_append_right (by omega),al];simp,by rw[ag nz];exact u,nz⟩
 . intro acc H2 z_;refine hZq fun q_ e_=>?_;obtain⟨g,k,al,hz⟩:=z_;subst e_;refine q L acc H2 g k ⟨al,fun j r=>?_⟩;refine hZq fun q_ e_=>?_;obtain⟨z,d,t,_⟩:=hz j r;subst e_;exact⟨z,d,t⟩
theorem xq:lim < 2^8000:=AB (by decide) (by decide)
theorem big1{C:Nat}{x:Int}(h:x.natAbs<=C+1)(hb:C < lim):Big x:=zg (zh h hb) xq
theorem u7{te:TE}{u:L2.TA}{Z:Ends}{σ:L2.St}{H:Hp}(h:te σ H fun v H1=>u σ H1 fun vs H2=>(v::vs).length<=sizeLine/\∀p,H2 p=none->Z.rt (.ref p) (upd H2 p (.tup (v::vs)))):tRet (tTup (eI te u)) Z σ H:=h
def qt:Sp:=fun vs H Q _=>∃(D:TA) (m n C:Nat) (scs:List Int) (us:List Tr) (ws:List V) (pl:Addr) (ls:List V) (L:Nat->Nat->Int) (T:Wg.Tb),vs= [.ref D.a]/\Tk K D.C/\Tab D m n scs us ws pl ls T H/\Wb m n L scs C/\Okt m n L T/\
 ∀(t l:Addr) (H':Hp) (M:Int),Same H H'->H' t=some (.tup [.ref l, .int (T.bot*M)])->H' l=some (.lst ((Wg.ls n fun j=>Wg.pt m n M T (m+j)).map V.int))->1<=M->M<=(C:Int)+1->(∀i,i < m->T.sd i < m->0 < T.ln i n-> -(T.ln i (n+1) / T.ln i n)<=M)->Q (.ref t) H'
theorem scStr:FnScope ["table","parts","lines"] ["table"] (ah sStr):= .of
theorem wM{f:Addr}{fd:FuncData}(F:Fun K "strict_point" "strict_point" sStr f fd)(B:Blt mg)(zS:Cl P w K mg base 2 "slack_lines" ["table"] (jS (K:=K)))(zL:Cl P w K mg base 2 "term_lines" ["table"] (qp (K:=K))):
 FnOk P w K mg base CX0 3 f fd ["table"] (qt (K:=K)):=by
 refine F.okb scStr fun vs H Q E h=>?_;refine hZq fun q_ e_=>?_;obtain⟨D,m,n,C,scs,us,ws,pl,ls,L,T,rfl,hk,hT,hW,hO,k⟩:=h;subst e_;refine⟨rfl,fun bB A outer s hr=>?_⟩;have a6:(["at","table"]:List Str).Nodup:=by decide +kernel
 have aC:(["line","parts"]:List Str).Nodup:=by decide +kernel
 refine⟨_,ad (psR 1 scStr.nd (av (oY rfl) rfl B.ma PyProof.Rows.boot_max (a0 (am dC (c5 (a0 a9 aa)) (aQ (NC:= ["at","table"]) (mp:= [none,some 0]) rfl (gR (K:=K) rfl (ak zS hr (a0 (pv 0) aa)))
  (fun _ _ _ _ _=>pgA 0 a6) (fun _ _ _ _ _=>cz (ax cr (ao (r:=rIxL K) aA (ao (r:=rIxL K) aA (c9 (K:=K) rfl (pv 1) rfl) (pv 0) fun _ _=>rfl) (cg bu a9) fun _ _=>rfl) a9 (ay _)))
  (fun _ _ _ _ _=>cg bu (am cE (ao (r:=rIxL K) aA (ao (r:=rIxL K) aA (c9 (K:=K) rfl (pv 1) rfl) (pv 0) fun _ _=>rfl) (cg bu a9) fun _ _=>rfl) (ao (r:=rIxL K) aA (ao (r:=rIxL K) aA (c9 (K:=K) rfl (pv 1) rfl) (pv 0) fun _ _=>rfl) (cg bu a9) fun _ _=>rfl))))) aa)))
  (ad (psA 2 scStr.nd (ak zL hr (a0 (pv 0) aa)))
  (ai (az (aY (a0 (aQ (NC:= ["line","parts"]) (mp:= [none,some 1]) rfl (bf (pv 2)) (fun _ _ _ _ _=>pgA 0 aC) (fun _ _ _ _ _=>aZ)
   (fun _ _ _ _ _=>am aS (am aR (ao (r:=rIxL K) aA (pv 0) (cg bu a9) fun _ _=>rfl) (pv 1)) (ao (r:=rIxL K) aA (pv 0) (cg bu a9) fun _ _=>rfl)))
   (a0 (am aR (aN (pv 0) rfl) (pv 1)) aa)))))),?_⟩
 have bw:(20000:Nat)<=sizeLine:=by decide +kernel
 have m64:=hT.m64;have n64:=hT.n64;have fl:∀b pl,(flds D pl b).lookup (Str.ofString "lines")=some (.ref pl):=fun b pl=>rfl;obtain⟨bb,bl⟩:=hW.bnd hO.inv hO.pm;have y:∀(p:Nat->Bool),((List.range m).filter p).length<=m:=fun p=>zh (zR _ _) (by rw[zY];exact z4 _)
 refine⟨(by show 1<=sizeLine;decide),fun l1 a7=>?_⟩
 have a3:=ae (o:= .lst [.int 1]) a7;refine bW rfl ?_;have au:=hT.same a3;refine⟨_,rfl,D,m,n,scs,us,ws,pl,ls,T,rfl,hk,au,fun l H2 nl s2 hl=>?_⟩;have a5:=au.same s2;refine⟨l,rfl,⟨_,SqL.of hl⟩,fun L' nL=>?_⟩;refine eC (xs:=nv (slk m T)) (fun j acc H3=>Same H2 H3/\H3 L'=some (.lst acc)/\acc=((((slk m T).take j).filter fun x=>decide (0 < T.ln x n)).map fun x=> -(T.ln x (n+1) / T.ln x n)).map V.int) ⟨ae nL,a8,rfl⟩ (fun j acc H3 p=>SqL.of (p.1 _ _ hl)) ?_ ?_
 . intro j x acc H3 hj ex z_;refine hZq fun q_ e_=>?_;obtain⟨s3,hL,rfl⟩:=z_;unfold nv at ex;rw[z7]at ex;obtain⟨r,er,rfl⟩:=zf.mp ex;obtain⟨rm,rs⟩:=slk_mem.mp (za er);have d:=a5.same s3;obtain⟨q,eq,hq,_,_⟩:=d.ro.2 r rm;subst e_;have al:(((slk m T).take j).filter fun x=>decide (0 < T.ln x n)).length<=m:=zh (zR _ _) (zh (List.length_take_le' _ _) (y _));refine⟨_,rfl,D.a,D.C,D.dx,_,_,rfl,d.ob,hk.cls,hk.nl,fl _ _,_,rfl,pl,_,(r:Int),_,rfl,rfl,SqL.of d.li,aI eq,2,rfl,q,_,-2,_,rfl,rfl,SqL.of hq,m3,_,0,rfl,rfl,_,rfl,?_⟩;by_cases z:0 < T.ln r n
   . rw[decide_eq_true z];refine iteT ?_;refine⟨_,rfl,D.a,D.C,D.dx,_,_,rfl,d.ob,hk.cls,hk.nl,fl _ _,_,rfl,pl,_,(r:Int),_,rfl,rfl,SqL.of d.li,aI eq,1,rfl,q,_,-1,_,rfl,rfl,SqL.of hq,tO,_,rfl,D.a,D.C,D.dx,_,_,rfl,d.ob,hk.cls,hk.nl,fl _ _,_,rfl,pl,_,(r:Int),_,rfl,rfl,SqL.of d.li,aI eq,2,rfl,q,_,-2,_,rfl,rfl,SqL.of hq,m3,_,_,rfl,rfl,⟨z,cn (bl r n rm (by omega)) hW.big⟩,_,rfl,?_⟩
     refine CompN.mk hj (by rw[yY,yY];omega) hL ⟨aH nL s3,a8,?_⟩
     rw[aD er,A4];simp[z]
   . rw[decide_eq_false z];refine iteF ?_;refine CompS.mk hj ⟨s3,hL,?_⟩;rw[aD er,A4];simp[z]
 intro acc H3 z_;refine hZq fun q_ e_=>?_;obtain⟨s3,hL,rfl⟩:=z_;have bg:(nv (slk m T)).length=(slk m T).length:=by unfold nv;rw[yY]
 rw[bg,zx]at hL;obtain⟨ms,g⟩:∃ms:List Int,ms=((slk m T).filter fun x=>decide (0 < T.ln x n)).map fun x=> -(T.ln x (n+1) / T.ln x n):=⟨_,rfl⟩;subst e_;rw[<-g]at hL
 have bx:ms.length<=m:=by
  rw[g,yY];exact zh (zR _ _) (y _)
 refine⟨l1,L',_,_,rfl,rfl,s3 _ _ (s2 _ _ a8),hL,by rw[yY];show 1+ms.length<=sizeLine;omega,fun p np=>?_⟩
 have sp:=ae (o:= .lst ([.int 1]++ms.map V.int)) np;refine⟨p,1::ms,rfl,SqL.of a8,by simp,fun M hM a2=>?_⟩
 have M1:1<=M:=a2 1 z6
 have MC:M<=(C:Int)+1:=by
  rcases zc.mp hM with e|e
  . rw[e];omega
  . rw[g]at e;obtain⟨x,hx,rfl⟩:=zJ.mp e;rw[Aa,slk_mem]at hx;have h1:=bl x (n+1) hx.1.1 (by omega)
    have h2:=dk (T.ln x (n+1)) (T.ln x n);omega
 have MP:∀i,i < m->T.sd i < m->0 < T.ln i n-> -(T.ln i (n+1) / T.ln i n)<=M:=fun i hi hs hp=>by
  refine a2 _ (z5 _ ?_);rw[g];refine zJ.mpr ⟨i,?_,rfl⟩;rw[Aa,slk_mem];exact⟨⟨hi,hs⟩,decide_eq_true hp⟩
 have MB:Big M:=big1 (C:=C) (by omega) hW.big
 have sA:=((a3.trans s2).trans s3).trans sp;have af:=hT.same sA;refine aj ?_;refine⟨_,rfl,D,m,n,scs,us,ws,pl,ls,T,rfl,hk,af,hO.pm,fun l2 bj H5 s5 a1 v=>?_⟩;have bi:=af.same s5;refine aj ?_;dsimp only;refine u7 ?_;refine bO rfl ?_;refine⟨_,rfl,l2,rfl,⟨_,SqL.of a1⟩,fun L2 ac=>?_⟩;refine bN (xs:=bj) (fun j acc H6=>Same H5 H6/\H6 L2=some (.lst acc)/\acc=(Wg.ls j fun j=>Wg.pt m n M T (m+j)).map V.int/\j<=n) ⟨ae ac,a8,rfl,zr _⟩ (fun j acc H6 p=>SqL.of (p.1 _ _ a1)) ?_ ?_
 . intro j x acc H6 hj ex z_;refine hZq fun q_ e_=>?_;obtain⟨s6,u,rfl,_⟩:=z_;rw[v.1]at hj;obtain⟨q,eq,hq⟩:=v.2 j hj;subst e_;rw[eq]at ex;cases ex;have aT:=s6 _ _ hq;have b1:=lM (k:=m+j) (c:=n) hO.pm bb bl (by omega)
   refine⟨_,rfl,2,rfl,q,_,-2,_,rfl,rfl,SqL.of aT,m3,_,rfl,_,_,rfl,rfl,⟨cn b1 hW.big,MB⟩,_,rfl,1,rfl,q,_,-1,_,rfl,rfl,SqL.of aT,tO,_,_,rfl,rfl,?_⟩;show CompN _ _ _ _ _ (V.int (lno m n T (m+j) n*M+lno m n T (m+j) (n+1))) H6;rw[sG];refine CompN.mk (by rw[v.1];exact hj) (by rw[yY,Wg.ls_len];omega) u ⟨aH ac s6,a8,?_,hj⟩
   unfold Wg.ls;rw[A9,zu,zu];rfl
 . intro acc H6 z_;refine hZq fun q_ e_=>?_;obtain⟨s6,u,rfl,_⟩:=z_;subst e_;rw[v.1]at u;have a4:=bi.same s6;refine⟨_,rfl,D.a,D.C,D.dx,_,_,rfl,a4.ob,hk.cls,hk.nb,rfl,_,rfl,_,_,rfl,rfl,⟨cn bb hW.big,MB⟩,two,fun t nt=>?_⟩;have st:=ae (o:= .tup [.ref L2, .int (T.bot*M)]) nt;exact k t L2 _ M (((sA.trans s5).trans s6).trans st) a8 (st _ _ u) M1 MC MP
def qB:Sp:=fun vs H Q _=>∃(D:TA) (m n:Nat) (scs:List Int) (us:List Tr) (ws:List V) (pl:Addr) (ls:List V) (T:Wg.Tb) (t l:Addr) (b:Int) (tp:Nat->Int),vs= [.ref D.a, .ref t]/\Tk K D.C/\Tab D m n scs us ws pl ls T H/\H t=some (.tup [.ref l, .int b])/\H l=some (.lst ((Wg.ls n tp).map V.int))/\0 < b/\Big b/\us.Nodup/\(∀u∈us,Ty .tm u/\u.depth<=7)/\
 ∀(d:Addr) (H':Hp) (G:Tr->Fr),H d=none->Same H H'->Dj.DAt P w K H' d us G->(∀j u,us[j]?=some u->G u=(fx (tp j) b,fy (tp j) b))->Q (.ref d) H'
theorem scNua:FnScope ["table","point","tops","bottom"] ["table","point"] (ah sNua):= .of
theorem wS{f:Addr}{fd:FuncData}(F:Fun K "numbers_at" "numbers_at" sNua f fd)(B:Blt mg)(zF:Cl P w K mg base 2 "fraction" ["top","bottom"] mD):
 FnOk P w K mg base CX0 3 f fd ["table","point"] (qB (P:=P) (w:=w) (K:=K)):=by
 refine F.okb scNua fun vs H Q E h=>?_;refine hZq fun q_ e_=>?_;obtain⟨D,m,n,scs,us,ws,pl,ls,T,t,l,b,tp,rfl,hk,r,ht,hl,hb,bb,nd,af,k⟩:=h;subst e_;refine⟨rfl,fun a3 A outer s hr=>?_⟩;have a2:(A.deeper (PyProof.Rows.envOfC (Str.ofString "numbers_at") (ah sNua) s.heap.objs.size f a3)).units+30 < cLine:=by have:=hr.units;omega
 have aT:(["term","top","bottom"]:List Str).Nodup:=by decide +kernel
 refine⟨_,ad (fz (pv 1) (bh (n:=2) rfl (aq (pgA 2 scNua.nd) (aq (jh (i:=3) scNua.nd rfl (Or.inr rfl)) aV))))
  (ai (az (Dj.pe_compJ (NC:= ["term","top","bottom"]) (mp:= [none,none,some 3]) (g:=gTup K 2 (be (aJ 0) (be (aJ 1) gNil))) rfl a2 (jg (k:= .lst) rfl B.zi (a0 (aN (pv 0) rfl) (a0 (pv 2) aa)))
   (fun _ _ _ _ _=>bh (n:=2) rfl (aq (pgA 0 aT) (aq (pgA 1 aT) aV))) (fun _ _ _ _ _=>aZ)
   (fun _ _ _ _ _=>pv 0) (fun _ _ _ _ _=>ak zF hr (a0 (pv 1) (a0 (pv 2) aa)))))),?_⟩
 have a4:(20000:Nat)<=sizeLine:=by decide +kernel
 have n64:=r.n64;have wl:=r.tt.len;have ul:=r.ul;obtain⟨G,eG⟩:∃G:Tr->Fr,G=fun u=>(fx (tp (Fm.ix us u)) b,fy (tp (Fm.ix us u)) b):=⟨_,rfl⟩;have hG:∀j u,us[j]?=some u->G u=(fx (tp j) b,fy (tp j) b):=fun j u e=>by rw[eG];show(fx (tp (Fm.ix us u)) b,_)=_;rw[Fm.ix_eq nd e]
 refine⟨_,rfl,t,_,rfl,SqT.of ht,rfl,_,_,rfl,_,_,rfl,rfl,?_⟩;dsimp only;refine Dj.comp_zipJ (P:=P) (w:=w) (K:=K) (xs:=ws) (ys:=(Wg.ls n tp).map V.int) (rest:= [some (.int b)]) (a:=D.pt) (b:=l) rfl (by rw[yY,Wg.ls_len];omega) (fun Q q=>⟨_,rfl,D.a,D.C,D.dx,_,_,rfl,r.ob,hk.cls,hk.nt,rfl,_,rfl,q⟩) (SqL.of r.tm) (SqL.of hl) fun d v=>?_
 refine⟨fun j acc H'=>Same H H'/\Dj.DJ P w K H' d acc/\Paired (Dj.En H' G) acc (us.take j),⟨ae v,⟨a8,fun p m=>(by cases m)⟩,by rw[Ak];exact .nil⟩,fun j acc H' p=>⟨SqL.of (p.1 _ _ r.tm),SqL.of (p.1 _ _ hl)⟩,?_,?_⟩
 . rintro j T' x y acc H' hj ⟨s2,hD,hP⟩ ex ey nT;have jn:j < n:=by omega
   rw[fQ jn]at ey;cases ey;refine hZq fun q_ e_=>?_;obtain⟨u,eu,hu⟩:=r.tt.get' ex;obtain⟨ty,dp⟩:=af u (za eu);obtain⟨c,rfl⟩:=Dj.tm_ref ty hu;subst e_;have sT:=ae (o:= .tup [.ref c, .int (tp j)]) nT;refine⟨_,rfl,c,Dj.ktL u,rfl,?_⟩;refine⟨_,rfl,_,rfl,tp j,b,rfl,hb,bb,fun q nq=>?_⟩;have sq:=ae (o:= .tup [.int (fx (tp j) b), .int (fy (tp j) b)]) nq;have aC:=hu.mono (Kd.of_same ((s2.trans sT).trans sq));have ac:Dj.DJ P w K (upd (upd H' T' (.tup [.ref c, .int (tp j)])) q (.tup [.int (fx (tp j) b), .int (fy (tp j) b)])) d acc:=hD.kd (Kd.of_same (sT.trans sq)) ((sT.trans sq) _ _ hD.at_);have au:=Dj.en_mono (Kd.of_same (sT.trans sq)) hP
   have hv:TrAt (upd (upd H' T' (.tup [.ref c, .int (tp j)])) q (.tup [.int (fx (tp j) b), .int (fy (tp j) b)])) (.ref q) (frT (G u)):=by
    rw[hG j u eu];exact cK a8 at_i at_i
   have key:=Dj.key_tm ty dp aC (K:=K);have pl':=Paired.length hP;rw[zG]at pl'
   have a1:u∉us.take j:=fun m=>by
    obtain⟨i,hi,e⟩:=Ah m;rw[zG]at hi;rw[List.getElem_take]at e;have:=sj nd eu (show us[i]?=some u by rw[yZ (by omega),e])
    omega
   have e0:=(Dj.en_val au (fun t m=>(af t (At m)).1) ty).2 a1
   have ep:Dj.putJ acc (Dj.ktL u) c (.ref q)=acc++ [(Dj.ktL u,c, .ref q)]:=by
    unfold Dj.putJ;rw[e0,if_neg (by simp)]
   refine Dj.CompJ.mk (by omega) (by omega) ac key ⟨?_,ac.put key,?_⟩
   . intro x o e;have:=((s2.trans sT).trans sq) _ _ e;rw[ag (fun z=>by rw[z,v]at e;cases e)]
     exact this
   . rw[ep,aD eu];have kd:=Dj.Kd.updJ (o:=Dj.dJ P w d (acc++ [(Dj.ktL u,c, .ref q)])) ac.at_;exact Paired.snoc (Dj.en_mono kd au) ⟨rfl,aC.mono kd,hv.mono kd⟩
 . rintro acc H2 ⟨s2,hD,hP⟩;rw[wl,zx]at hP;exact k d H2 G v s2 ⟨⟨acc,hD,hP⟩,af,nd⟩ hG
end
end K39
namespace L2
open PySem PySem.Spec PyProof.Rows
theorem ext3{o p q:Option V}{r:St}:Ext (none::none::none::r) (o::p::q::r)
 |0,v,e=>by cases (ze (show some (none:Option V)=some (some v)from e))
 |1,v,e=>by cases (ze (show some (none:Option V)=some (some v)from e))
 |2,v,e=>by cases (ze (show some (none:Option V)=some (some v)from e))
 |j+3,v,e=>e
theorem lU{K:PySem.W.Frag}{a:Addr}{mp:List (Option Nat)}{tl:TE}{g:TG}{tc:TT}{te:TE}{Q:VK}{σ:L2.St}{H H1:Hp}{xs:List V}(ha:∀Q:VK,Q (.ref a) H1->tl σ H Q)(h1:SqL K H1 a xs)(h:∀D,H1 D=none->∃Pv:Nat->List V->Hp->Prop,Pv 0 [] (upd H1 D (.lst []))/\(∀i acc H,Pv i acc H->SqL K H a xs)/\
  (∀i z acc H,i < xs.length->Pv i acc H->xs[i]?=some z->g z (subS mp σ) H fun σ4 H4=>Ext (subS mp σ) σ4/\tc σ4 H4 fun b H5=>if b=true then te σ4 H5 (CompN xs.length i D acc Pv)else CompS xs.length i acc Pv H5)/\∀acc H,Pv xs.length acc H->Q (.ref D) H):
 cq mp (nF K tl) g tc te σ H Q:=by
 unfold cq;refine ha _ ⟨a,rfl,⟨xs,h1⟩,fun D k=>?_⟩;obtain⟨Pv,e,f,ps,j⟩:=h D k;refine⟨fun i m acc H=>m=xs.length - i/\i<=xs.length/\Pv i acc H,⟨xs.length,by simp,zr _,e⟩,?_⟩
 rintro i m acc H ⟨rfl,hi,p⟩;have d:=f i acc H p;by_cases c:i < xs.length
 . refine .inr ⟨⟨xs,xs[i],d,by simp[c]⟩,?_⟩
   rintro v H' ⟨rfl,y⟩;exact ps i v acc _ c p (y xs d)
 . have ei:i=xs.length:=by omega
   subst ei;exact .inl ⟨⟨xs,d,z4 _⟩,j acc H p⟩
end L2
namespace K39
open PySem L2 Mth Tre Wd Su Tw Fm
theorem jP{sp:Sp}{dvs:List V}{E:XK}{r:R2}{ta tb:TE}{i:Nat}{u:TS}{Z:Ends}{σ:L2.St}{H:Hp}(h:ta σ H fun x H1=>tb σ H1 fun y H2=>r x y H2 fun v H3=>sp ([v]++dvs) H3 (fun x H4=>aJ i x σ H4 (u Z)) E):tSeq (tAsg (pQ sp dvs E (eI (tOp r ta tb) tNil)) (aJ i)) u Z σ H:=h
theorem pG{r:R2}{ta tb:TE}{σ:L2.St}{H:Hp}{Q:List V->Hp->Prop}(h:ta σ H fun x H1=>tb σ H1 fun y H2=>r x y H2 fun v H3=>Q [v] H3):eI (tOp r ta tb) tNil σ H Q:=h
structure Bnd where
 ps:List Pq
 lim:Fr
 st:Bool
def bdT(b:Bnd):Tr:= .tup [sumT b.ps,frT b.lim, .bl b.st]
theorem dN{H:Hp}{v:V}{a b c:Tr}(h:TrAt H v (.tup [a,b,c])):∃r x y z,v= .ref r/\H r=some (.tup [x,y,z])/\TrAt H x a/\TrAt H y b/\TrAt H z c:=by
 obtain⟨r,vs,rfl,hr,g⟩:=at_t h;obtain⟨x,r1,rfl,h1,h2⟩:=g.inv;obtain⟨y,r2,rfl,h3,f⟩:=h2.inv;obtain⟨z,i,rfl,e,d⟩:=f.inv;unfold TrsAt at d;subst d;exact⟨r,x,y,z,rfl,hr,h1,h3,e⟩
noncomputable def scl(b:Bnd):Int:=lcmF 1 (b.ps.map (·.2)++ [b.lim])
noncomputable def rowF(us:List Tr)(b:Bnd)(c:Nat):Int:=
 if c < us.length then -(cw (scl b) (us.getD c .non) b.ps)else if c=us.length then wh b.lim (scl b)else if b.st then -1 else 0
noncomputable def Lf(bs:List Bnd)(us:List Tr)(i:Nat):Nat->Int:=rowF us (bs.getD i ⟨[],(0,1),false⟩)
theorem uo{us:List Tr}{b:Bnd}{n:Nat}(h:us.length=n):Wg.ls (n+2) (rowF us b)=((us.map fun t=>cw (scl b) t b.ps).map fun x=> -x)++ [wh b.lim (scl b),if b.st then -1 else 0]:=by
 subst h;unfold Wg.ls;rw[A9,A9,List.append_assoc,zu];congr 1
 . refine AO fun i=>?_;rw[z7,z7,z7];by_cases hi:i < us.length
   . rw[List.getElem?_range hi,yZ hi];simp only[Option.map_some,Option.some.injEq];unfold rowF;rw[if_pos hi,zd,yZ hi];rfl
   . rw[A8 (by rw[zY];omega),A8 (by omega)]
     rfl
 . show[rowF us b us.length,rowF us b (us.length+1)]=_;unfold rowF;rw[if_neg (by omega),if_pos rfl,if_neg (by omega),if_neg (by omega)]
structure Bz (bs:List Bnd) (X Y S k C:Nat):Prop where
 ps:∀b∈bs,b.ps.length<=k/\(∀p∈b.ps,p.2.1.natAbs<=X/\p.2.2.natAbs<=Y)/\b.lim.1.natAbs<=X/\b.lim.2.natAbs<=Y
 sc:∀b∈bs,(scl b).natAbs<=S
 y1:1<=Y
 xs:1<=X*S
 yb:Y^(k+2) < 2^8000
 cc:Wg.fac bs.length*(X*S)^bs.length<=C
 s1:S<=C
 c1:1<=C
 big:C < lim
structure Gbd (T:List Tr) (e:Nat) (b:Bnd):Prop where
 asc:Asc b.ps
 ps:∀p∈b.ps,Gm T p.1/\Gq e p
 lim:Gf e b.lim
 sh:Sh b.lim
theorem oy{Y a b:Nat}(hY:1<=Y)(h:a<=b):Y^a<=Y^b:=Am hY h
theorem Gbd.scl_ok{T:List Tr}{e:Nat}{b:Bnd}(g:Gbd T e b):0 < scl b/\(∀p∈b.ps,p.2.2∣scl b)/\b.lim.2∣scl b:=by
 have h:∀f∈b.ps.map (·.2)++ [b.lim],0 < f.2/\f.2.natAbs<=(((b.ps.map (·.2)++ [b.lim]).map fun f:Fr=>f.2.natAbs).foldr max 0):=by
  intro f a;refine⟨?_,?_⟩
  . rcases zv.mp a with m|m
    . obtain⟨p,mp,rfl⟩:=zJ.mp m;exact(g.ps p mp).2.gf.pos
    . rw[zw.mp m];exact g.lim.pos
  . generalize b.ps.map (·.2)++ [b.lim]=fs at a;clear g
    induction fs with
    |nil=>cases a
    |cons x r i=>
     rw[zj,List.foldr_cons];rcases zc.mp a with rfl|a
     . exact Nat.le_max_left _ _
     . exact zh (i a) (Nat.le_max_right _ _)
 obtain⟨d,j,c,_⟩:=eW (s:=1) (by decide) h
 refine⟨d,fun p mp=>c p.2 (AE _ (zJ.mpr ⟨p,mp,rfl⟩)),c _ (zm _ z6)⟩
theorem Bz.wb{bs:List Bnd}{X Y S k C:Nat}(h:Bz bs X Y S k C){T:List Tr}{e:Nat}(g:∀b∈bs,Gbd T e b)(us:List Tr):Wb bs.length us.length (Lf bs us) (bs.map scl) C:=by
 refine⟨⟨X*S,⟨fun i c hi hc=>?_,h.xs⟩,h.cc⟩,fun s d=>?_,h.c1,h.big⟩
 . have mb:bs.getD i ⟨[],(0,1),false⟩∈bs:=by
    rw[zd,yZ hi];exact A7 hi
   unfold Lf;generalize bs.getD i ⟨[],(0,1),false⟩=b at mb;obtain⟨_,h2,h3,_⟩:=h.ps b mb;have hs:=h.sc b mb;have a:=g b mb;unfold rowF;split
   . rw[AA];refine zh (vO (e:=e) (M:=X) fun p mp=>⟨(a.ps p mp).2.gf.pos,(h2 p mp).1⟩) (Nat.mul_le_mul_left _ hs)
   . split
     . exact zh (m6 a.lim.pos) (AI h3 hs)
     . have:=h.xs;split
       . show 1<=X*S;exact this
       . exact zr _
 . obtain⟨b,mb,rfl⟩:=zJ.mp d;exact⟨(g b mb).scl_ok.1,zh (h.sc b mb) h.s1⟩
section
variable{P:Program}{w:World}{K:PySem.W.Frag}{mg:Str->Option Value}{base:Heap}{T0:Addr}
def qk(C0:Addr):Sp:=fun vs H Q _=>∃(lb lsu:Addr) (xs ys:List V) (bs:List Bnd) (ex:List (List Pq)) (T:List Tr) (e X Y S k C:Nat),vs= [.ref lb, .ref lsu]/\H lb=some (.lst xs)/\TrsAt H xs (bs.map bdT)/\H lsu=some (.lst ys)/\TrsAt H ys (ex.map sumT)/\
 (∀b∈bs,Gbd T e b)/\(∀ps∈ex,∀p∈ps,Gm T p.1)/\e<=8000/\T.length < 60/\bs.length<=64/\ex.length<=64/\k<=60/\Bz bs X Y S k C/\
 ∀(D:TA) (H':Hp) (us:List Tr) (ws:List V) (pl:Addr) (ls:List V) (Tb:Wg.Tb),D.C=C0->Same H H'->Tab D bs.length us.length (bs.map scl) us ws pl ls Tb H'->Okt bs.length us.length (Lf bs us) Tb->us.Nodup->(∀u∈us,Gm T u)->us.length<=T.length->
  (∀x,x∈us↔(∃b∈bs,∃p∈b.ps,p.1=x)\/∃ps∈ex,∃p∈ps,p.1=x)->H D.a=none->H D.pss=none->H D.ph=none->Q (.ref D.a) H'
theorem scTof:FnScope ["bounds","sums","bound","terms","pairs","strict","scales","lines","scale","counts","table"] ["bounds","sums"] (ah sTof):= .of
theorem wJ{f fI C0:Addr}{fd dI:FuncData}(F:Fun K "table_of" "table_of" sTof f fd)(B:Blt mg)(hk:Tk K C0)(zTm:Cl P w K mg base 42 "terms_of" ["sums"] qm)(zSc:Cl P w K mg base 2 "scale_of" ["shares"] qz)(zSh:Cl P w K mg base 1 "shares_in" ["pairs"] qu)(zCt:Cl P w K mg base 42 "counts_of" ["pairs","terms","scale"] qI)(zWh:Cl P w K mg base 1 "whole_of" ["share","scale"] me)(M:Mk K C0 fI)(GI:FnOk P w K mg base CX0 1 fI dI ["self","terms","scales","lines"] (kY (K:=K) C0))(bI:Binds K dI ["self","terms","scales","lines"] [])(mC:mg "Table"=some (.ref C0))(zSe:Cl P w K mg base 3 "settle" ["table"] (qw (K:=K))):
 FnOk P w K mg base CX0 43 f fd ["bounds","sums"] (qk C0):=by
 refine F.okb scTof fun vs H Q E h=>?_;refine hZq fun q_ e_=>?_;obtain⟨lb,lsu,xs,ys,bs,ex,T,e,X,Y,S,k,C,rfl,af,bw,fv,ev,hg,d3,he,f1,fB,f3,f7,hz,q⟩:=h;subst e_;refine⟨rfl,fun f6 A outer s hr=>?_⟩;have ew:Room 1 _:=hr.mono (by decide)
 have el:Room 2 _:=hr.mono (by decide)
 have fg:Room 3 _:=hr.mono (by decide)
 have eL:(["bound"]:List Str).Nodup:=by decide +kernel
 have dj:(["count"]:List Str).Nodup:=by decide +kernel
 have cm:(["pairs","bound","strict"]:List Str).Nodup:=by decide +kernel
 refine⟨_,ad (psA 3 scTof.nd (ak zTm hr (a0 (am dC (aQ (NC:= ["bound"]) (mp:= [none]) rfl (bf (pv 0)) (fun _ _ _ _ _=>pgA 0 eL) (fun _ _ _ _ _=>aZ) (fun _ _ _ _ _=>ao (r:=rIxT K) aw (pv 0) a9 fun _ _=>rfl)) (bE dl rfl B.li PyProof.Rows.boot_list (a0 (pv 1) aa))) aa)))
  (ad (gc (i:=6) (NC:= ["pairs","bound","strict"]) (mp:= [none,none,none]) (g:=gTup K 3 (be (aJ 0) (be (aJ 1) (be (aJ 2) gNil)))) rfl scTof.nd rfl rfl rfl (bf (pv 0))
   (fun _ _ _ _ _=>bh (n:=3) rfl (aq (pgA 0 cm) (aq (pgA 1 cm) (aq (pgA 2 cm) aV)))) (fun _ _ _ _ _=>aZ)
   (fun _ _ _ _ _=>ak zSc el (a0 (am dC (ak zSh ew (a0 (pv 0) aa)) (c5 (a0 (pv 1) aa))) aa)))
  (ad (psA 7 scTof.nd (c5 aa))
  (ad (bX PassesOwn.never rfl (jg (k:= .lst) rfl B.zi (a0 (pv 0) (a0 (pv 6) aa))) (bh rfl (aq (bh (n:=3) rfl (aq (pgA 4 scTof.nd) (aq (pgA 2 scTof.nd) (aq (pgA 5 scTof.nd) aV)))) (aq (pgA 8 scTof.nd) aV)))
   (ad (psA 9 scTof.nd (ak zCt hr (a0 (pv 4) (a0 (pv 3) (a0 (pv 8) aa)))))
   (ai (cA (gW PySem.F.plainAttrs_list PySem.F.slot_list_append PySem.F.type_list_append cB (pv 7) (a0 (am dC (aQ (NC:= ["count"]) (mp:= [none]) rfl (bf (pv 9)) (fun _ _ _ _ _=>pgA 0 dj) (fun _ _ _ _ _=>aZ) (fun _ _ _ _ _=>cg bu (pv 0)))
    (c5 (a0 (ak zWh ew (a0 (pv 2) (a0 (pv 8) aa))) (a0 (dB (cD (pv 5)) (cg bu a9) a9) aa)))) aa))))))
  (ad (psA 10 scTof.nd (uB M GI el rfl mC bI .nil gX (a0 (pv 3) (a0 (pv 6) (a0 (pv 7) aa)))))
  (ad (cA (ak zSe fg (a0 (pv 10) aa)))
  (ai (az (pv 10)))))))),?_⟩
 have fR:(20000:Nat)<=sizeLine:=by decide +kernel
 have xl:=bw.len;rw[yY]at xl;have yl:=ev.len;rw[yY]at yl;obtain⟨pss,a5⟩:∃pss,pss=bs.map (·.ps)++ex:=⟨_,rfl⟩;refine jP ?_;refine bO rfl ?_;refine⟨_,rfl,lb,rfl,⟨_,SqL.of af⟩,fun L1 ee=>?_⟩;refine bN (xs:=xs) (fun j acc H'=>Same H H'/\H' L1=some (.lst acc)/\TrsAt H' acc ((bs.take j).map fun b=>sumT b.ps)) ⟨ae ee,a8,by rw[Ak];exact .nil⟩ (fun j acc H' p=>SqL.of (p.1 _ _ af)) ?_ ?_
 . intro j x acc H' hj bC z_;refine hZq fun q_ e_=>?_;obtain⟨s2,hL,hA⟩:=z_;obtain⟨t,et,ht⟩:=(bw.mono (Kd.of_same s2)).get' bC;rw[z7]at et;obtain⟨b,eb,rfl⟩:=zf.mp et;obtain⟨r,x1,y1,z1,rfl,a6,a4,_,_⟩:=dN ht;subst e_;have al:=hA.len;rw[yY,zG]at al;refine⟨_,rfl,r,_,0,_,rfl,rfl,SqT.of a6,rfl,?_⟩;have kd:=Kd.upd (ys:=acc++ [x1]) hL;refine CompN.mk hj (by omega) hL ⟨aH ee s2,a8,?_⟩
   rw[aD eb,zu];exact TrsAt.app (.cons (a4.mono kd) .nil) (hA.mono kd)
 rintro acc H1 ⟨s1,fC,hA⟩;rw[xl,zx]at hA;have al:=hA.len;rw[yY]at al;refine⟨_,rfl,lsu,_,rfl, .inl (SqL.of (s1 _ _ fv)),fun l2 fb=>?_⟩;have b8:=ae (o:= .lst ys) fb;refine⟨L1,l2,_,_,rfl,rfl,b8 _ _ fC,a8,by omega,fun p1 fm=>?_⟩
 have er:=ae (o:= .lst (acc++ys)) fm;have sA:=(s1.trans b8).trans er;refine⟨p1,_,pss,T,rfl,a8,?_,?_,by omega,fun lt ws us H2 f8 s2 c3 eG eg dH=>?_⟩
 . rw[a5,zu,AG];exact TrsAt.app (ev.mono (Kd.of_same sA)) (hA.mono (Kd.of_same (b8.trans er)))
 . intro ps eq p mp;rw[a5]at eq;rcases zv.mp eq with m|m
   . obtain⟨b,mb,rfl⟩:=zJ.mp m;exact((hg b mb).ps p mp).1
   . exact d3 ps m p mp
 have bi:∀x,x∈us↔(∃b∈bs,∃p∈b.ps,p.1=x)\/∃ps∈ex,∃p∈ps,p.1=x:=fun x=>by
  rw[dH x,a5];constructor
  . rintro⟨ps,m,h⟩;rcases zv.mp m with m|m
    . obtain⟨b,mb,rfl⟩:=zJ.mp m;exact .inl ⟨b,mb,h⟩
    . exact .inr ⟨ps,m,h⟩
  . rintro(⟨b,mb,h⟩|⟨ps,m,h⟩)
    . exact⟨b.ps,AE _ (zJ.mpr ⟨b,mb,rfl⟩),h⟩
    . exact⟨ps,zm _ m,h⟩
 have cb:∀u∈us,Gm T u:=fun u mu=>by
  rcases(bi u).mp mu with⟨b,mb,p,mp,rfl⟩|⟨ps,m,p,mp,rfl⟩
  . exact((hg b mb).ps p mp).1
  . exact d3 ps m p mp
 have uT:us.length<=T.length:=sub_len eg fun u mu=>(cb u mu).mem;have sB:=sA.trans s2;refine aj ?_;refine eF ?_;refine lU (K:=K) (xs:=xs) (a:=lb) (fun Q q=>⟨_,rfl,q⟩) (SqL.of (sB _ _ af)) fun L3 ek=>?_;refine⟨fun j acc H'=>Same H2 H'/\H' L3=some (.lst acc)/\acc=((bs.take j).map scl).map V.int,⟨ae ek,a8,rfl⟩,fun j acc H' p=>SqL.of (p.1 _ _ (sB _ _ af)),?_,?_⟩
 . rintro j z acc H' hj ⟨s3,aC,rfl⟩ ez;refine hZq fun q_ e_=>?_;obtain⟨t,et,ht⟩:=(bw.mono (Kd.of_same (sB.trans s3))).get' ez;rw[z7]at et;obtain⟨b,eb,rfl⟩:=zf.mp et;have mb:=za eb;obtain⟨r,x1,y1,z1,rfl,a6,a4,cd,cp⟩:=dN ht;obtain⟨k1,k2,k3,k4⟩:=hz.ps b mb;subst e_;have gb:=hg b mb;refine⟨r,_,rfl,SqT.of a6,rfl,_,_,rfl,_,_,rfl,_,_,rfl,rfl,ext3,fD ?_⟩;refine⟨_,rfl,x1,b.ps,rfl,a4,by omega,fun l4 w4 H4 s4 gh e6 d8=>?_⟩
   have eR:=d8.len;rw[yY]at eR;refine⟨_,rfl,(by show 1<=sizeLine;decide),fun l5 d4=>?_⟩
   have s5:=ae (o:= .lst [y1]) d4;refine⟨l4,l5,_,_,rfl,rfl,s5 _ _ e6,a8,by show w4.length+1<=sizeLine;omega,fun p6 fa=>?_⟩
   have s6:=ae (o:= .lst (w4++ [y1])) fa;refine⟨p6,_,b.ps.map (·.2)++ [b.lim],Y,rfl,a8,?_,?_,hz.y1,?_,?_⟩
   . rw[zu,AG];refine TrsAt.app (.cons (cd.mono (Kd.of_same ((s4.trans s5).trans s6))) .nil) ?_;exact d8.mono (Kd.of_same (s5.trans s6))
   . intro f mf;rcases zv.mp mf with m|m
     . obtain⟨p,mp,rfl⟩:=zJ.mp m;exact⟨(gb.ps p mp).2.gf.pos,(k2 p mp).2⟩
     . rw[zw.mp m];exact⟨gb.lim.pos,k4⟩
   . refine zg (oy hz.y1 ?_) hz.yb;rw[zK,yY];show b.ps.length+1+1<=k+2;omega
   . have jl:j < bs.length:=(zb.mp eb).1;refine CompN.mk hj (by rw[yY,yY,zG];omega) (((s4.trans s5).trans s6) _ _ aC) ⟨aH ek (((s3.trans s4).trans s5).trans s6),a8,?_⟩
     rw[aD eb];simp[scl]
 rintro fM H3 ⟨s3,aC,rfl⟩;rw[xl,zx]at aC;have sC:=sB.trans s3;refine aj ?_;refine⟨(by show 0<=sizeLine;omega),fun pl bj=>?_⟩
 have a7:=ae (o:= .lst []) bj;refine aj ?_;have sD:=sC.trans a7;obtain⟨H4,eu⟩:∃H4,H4=upd H3 pl (.lst []):=⟨_,rfl⟩;rw[<-eu]at a7 sD ⊢;have bF:H4 pl=some (.lst []):=by rw[eu];exact a8
 have d9:H pl=none:=sC.free bj;have e7:lb≠pl:=fun z=>by rw[z,d9]at af;cases af
 have ef:=sD _ _ af;have bg:H4 L3=some (.lst ((bs.map scl).map V.int)):=a7 _ _ aC;have eB:L3≠pl:=fun z=>by rw[z,bj]at aC;cases aC
 have d2:H4 lt=some (.lst ws):=(s3.trans a7) _ _ c3;have ej:lt≠pl:=fun z=>by rw[z]at c3;rw[s3 _ _ c3]at bj;cases bj
 have bT:=eG.mono (Kd.of_same (s3.trans a7))
 have ed:∀ {H':Hp},But1 pl H4 H'->(∃zs,H' pl=some (.lst zs))->Kd H4 H':=fun{H'} b hp=>⟨fun x o e=>b _ _ (fun z=>by rw[z,bF]at e;cases e) e,fun x o e=>by
  by_cases z:x=pl
  . rw[z];exact hp
  . exact⟨o,b _ _ z e⟩⟩
 refine⟨_,rfl,_,rfl,lb,L3,xs,(bs.map scl).map V.int,rfl,SqL.of ef,SqL.of bg,?_⟩
 refine sX (xs:=xs) (ys:=(bs.map scl).map V.int) (by rw[yY,yY];omega)
  (fun i σ H'=>(∃v2 v4 v5 v8 v9,σ= [some (.ref lb),some (.ref lsu),v2,some (.ref lt),v4,v5,some (.ref L3),some (.ref pl),v8,v9,none])/\But1 pl H4 H'/\∃acc,H' pl=some (.lst acc)/\acc.length=i/\∀j,j < i->∃q,acc[j]?=some (.ref q)/\H' q=some (.lst ((Wg.ls (us.length+2) (Lf bs us j)).map V.int))/\q≠pl)
  ⟨⟨none,none,none,none,none,rfl⟩,fun x o _ e=>e,[],bF,rfl,fun j hj=>absurd hj (Nat.not_lt_zero _)⟩ (fun i σ H' _ p=>⟨SqL.of (p.2.1 _ _ e7 ef),SqL.of (p.2.1 _ _ eB bg)⟩) ?_ ?_
 . rintro i Tt x y σ H' ex' ey _ ⟨⟨v2,v4,v5,v8,v9,rfl⟩,b1,d,au,cI,e3⟩ nT;rw[z7,z7]at ey;have dV:=ed b1 ⟨_,au⟩;refine hZq fun q_ e_=>?_;obtain⟨t,et,ht⟩:=((bw.mono (Kd.of_same sD)).mono dV).get' ex';rw[z7]at et;obtain⟨b,eb,rfl⟩:=zf.mp et;subst e_;rw[eb]at ey;cases ey;have mb:=za eb;have ib:i < bs.length:=(zb.mp eb).1;have gb:=hg b mb;refine hZq fun q_ e_=>?_;obtain⟨r,x1,y1,z1,rfl,a6,a4,cd,cp⟩:=dN ht;have sT:=ae (o:= .tup [.ref r, .int (scl b)]) nT;obtain⟨k1,k2,k3,k4⟩:=hz.ps b mb;subst e_;have bY:Big (scl b):=cn (zh (hz.sc b mb) hz.s1) hz.big;unfold TrAt at cp;subst cp;refine⟨Tt,_,rfl,SqT.of a8,rfl,_,_,rfl,r,_,rfl,SqT.of (sT _ _ a6),rfl,_,_,rfl,_,_,rfl,_,_,rfl,rfl,_,_,rfl,rfl,?_⟩;refine⟨_,rfl,_,rfl,_,rfl,x1,b.ps,lt,ws,us,T,scl b,e,rfl,a4.mono (Kd.of_same sT),gb.asc,gb.ps,he,bY,by omega,sT _ _ (b1 _ _ ej d2),(bT.mono dV).mono (Kd.of_same sT),cb,by omega,fun l5 H5 d4 s5 d0=>?_⟩
   refine aj ?_;refine⟨_,rfl, .inl ⟨rfl,_,SqL.of ((sT.trans s5) _ _ au)⟩,?_⟩;refine pG ?_;refine bO rfl ?_;refine⟨_,rfl,l5,rfl,⟨_,SqL.of d0⟩,fun L6 em=>?_⟩;refine bN (xs:=(us.map fun t=>cw (scl b) t b.ps).map V.int) (fun j acc H6=>Same H5 H6/\H6 L6=some (.lst acc)/\acc=(((us.map fun t=>cw (scl b) t b.ps).take j).map fun x=> -x).map V.int) ⟨ae em,a8,rfl⟩ (fun j acc H6 p=>SqL.of (p.1 _ _ d0)) ?_ ?_
   . intro j x acc H6 hj bC z_;refine hZq fun q_ e_=>?_;obtain⟨s6,bb,rfl⟩:=z_;rw[z7]at bC;obtain⟨c,ec,rfl⟩:=zf.mp bC;subst e_;have jl:j < us.length:=by have:=(zb.mp ec).1;rw[yY]at this;exact this
     refine⟨_,rfl,c,rfl,?_⟩;refine CompN.mk hj (by rw[yY,yY,zG,yY];omega) bb ⟨aH em s6,a8,?_⟩
     rw[aD ec];simp
   rintro f4 H6 ⟨s6,bb,rfl⟩;rw[yY,zx]at bb;have sE:=(sT.trans s5).trans s6;refine⟨_,rfl,_,rfl,y1,b.lim,scl b,rfl,cd.mono (Kd.of_same sE),gb.lim.pos,gb.lim.bot.big he,gb.lim.top.big he,bY,_,rfl,b.st,rfl,?_⟩;have row:=uo (us:=us) (b:=b) (n:=us.length) rfl
   have fh:Lf bs us i=rowF us b:=by
    unfold Lf;rw[zd,eb];rfl
   have f0:∀v:Int,(d++ [V.int v]).length=i+1:=fun v=>by rw[zK,cI];rfl
   have fin:∀st:Int,(if b.st=true then(-1:Int)else 0)=st->∀l7 p8,H6 l7=none->(upd H6 l7 (.lst [.int (wh b.lim (scl b)), .int st])) p8=none->
    But1 pl H4 (upd (upd (upd H6 l7 (.lst [.int (wh b.lim (scl b)), .int st])) p8 (.lst ((((us.map fun t=>cw (scl b) t b.ps).map fun x=> -x).map V.int)++ [.int (wh b.lim (scl b)), .int st]))) pl (.lst (d++ [.ref p8])))/\
    ∃acc,(upd (upd (upd H6 l7 (.lst [.int (wh b.lim (scl b)), .int st])) p8 (.lst ((((us.map fun t=>cw (scl b) t b.ps).map fun x=> -x).map V.int)++ [.int (wh b.lim (scl b)), .int st]))) pl (.lst (d++ [.ref p8]))) pl=some (.lst acc)/\acc.length=i+1/\
     ∀j,j < i+1->∃q,acc[j]?=some (.ref q)/\(upd (upd (upd H6 l7 (.lst [.int (wh b.lim (scl b)), .int st])) p8 (.lst ((((us.map fun t=>cw (scl b) t b.ps).map fun x=> -x).map V.int)++ [.int (wh b.lim (scl b)), .int st]))) pl (.lst (d++ [.ref p8]))) q=some (.lst ((Wg.ls (us.length+2) (Lf bs us j)).map V.int))/\q≠pl:=by
    intro st est l7 p8 ac l;have s7:=ae (o:= .lst [.int (wh b.lim (scl b)), .int st]) ac;have s8:=ae (o:= .lst ((((us.map fun t=>cw (scl b) t b.ps).map fun x=> -x).map V.int)++ [.int (wh b.lim (scl b)), .int st])) l;have f2:=((sE.trans s7).trans s8) _ _ au;have n8:p8≠pl:=fun z=>by rw[z,(sE.trans s7) _ _ au]at l;cases l
    refine⟨fun x o nx e=>?_,d++ [.ref p8],a8,by rw[zK,cI];rfl,fun j hj=>?_⟩
    . rw[ag nx];exact((sE.trans s7).trans s8) _ _ (b1 _ _ nx e)
    . rcases Nat.lt_or_ge j i with h|h
      . refine hZq fun q_ e_=>?_;obtain⟨q,a1,a2,a3⟩:=e3 j h;subst e_;exact⟨q,by rw[List.getElem?_append_left (by omega)];exact a1,by rw[ag a3];exact((sE.trans s7).trans s8) _ _ a2,a3⟩
      . have e:j=i:=by omega
        subst e;refine⟨p8,by rw[List.getElem?_append_right (by omega),cI];simp,?_,n8⟩
        rw[ag n8,a8,fh,row,zu,<-est];rfl
   have b7:∀z:Int,((((us.map fun t=>cw (scl b) t b.ps).map fun x=> -x).map V.int)).length+ [V.int (wh b.lim (scl b)),V.int z].length<=sizeLine:=fun z=>by
    rw[yY,yY,yY];show us.length+2<=sizeLine;omega
   cases d5:b.st with
   |true=>
    refine iteT ⟨1,rfl,two,fun l7 ac=>?_⟩;have s7:=ae (o:= .lst [.int (wh b.lim (scl b)), .int (-1)]) ac;refine⟨L6,l7,_,_,rfl,rfl,s7 _ _ bb,a8,b7 _,fun p8 l=>?_⟩;have s8:=ae (o:= .lst ((((us.map fun t=>cw (scl b) t b.ps).map fun x=> -x).map V.int)++ [.int (wh b.lim (scl b)), .int (-1)])) l;refine⟨pl,d,_,rfl,rfl,((sE.trans s7).trans s8) _ _ au,by omega,?_⟩
    obtain⟨c1,c2⟩:=fin (-1) (by rw[d5];rfl) l7 p8 ac l
    exact⟨⟨_,_,_,_,_,rfl⟩,c1,c2⟩
   |false=>
    refine iteF ⟨two,fun l7 ac=>?_⟩;have s7:=ae (o:= .lst [.int (wh b.lim (scl b)), .int 0]) ac;refine⟨L6,l7,_,_,rfl,rfl,s7 _ _ bb,a8,b7 _,fun p8 l=>?_⟩;have s8:=ae (o:= .lst ((((us.map fun t=>cw (scl b) t b.ps).map fun x=> -x).map V.int)++ [.int (wh b.lim (scl b)), .int 0])) l;refine⟨pl,d,_,rfl,rfl,((sE.trans s7).trans s8) _ _ au,by omega,?_⟩
    obtain⟨c1,c2⟩:=fin 0 (by rw[d5];rfl) l7 p8 ac l
    exact⟨⟨_,_,_,_,_,rfl⟩,c1,c2⟩
 intro σ H5 z_;refine hZq fun q_ e_=>?_;obtain⟨⟨v2,v4,v5,v8,v9,rfl⟩,b1,bR,aT,d6,eo⟩:=z_;subst e_;rw[xl]at d6 eo;have eT:=ed b1 ⟨_,aT⟩;refine⟨_,rfl,_,rfl,_,rfl,fun x dx nx e0 e8=>?_⟩;have f5:x≠pl:=fun z=>by rw[z,aT]at nx;cases nx
 have sx:Same H5 (upd (upd H5 dx (.own x)) x (.ins C0 dx [])):=(ae e0).trans (ae (by rw[ag e8.symm];exact nx))
 have o4:∀ {y:Addr} {o:HO},y≠pl->H4 y=some o->(upd (upd H5 dx (.own x)) x (.ins C0 dx [])) y=some o:=fun{y o} n e=>sx _ _ (b1 _ _ n e);have oH:∀ {y:Addr} {o:HO},H y=some o->H5 y=some o:=fun{y o} e=>b1 _ _ (fun z=>by rw[z,d9]at e;cases e) (sD _ _ e)
 have c4:H x=none:=by
  cases qq:H x with
  |none=>rfl
  |some o=>rw[oH qq]at nx;cases nx
 refine⟨x,dx,lt,L3,pl,bs.length,us.length,bs.map scl,us,ws,bR,Lf bs us,rfl,hk,a8,o4 ej d2,(bT.mono eT).mono (Kd.of_same sx),rfl,o4 eB bg,by rw[yY],sx _ _ aT,⟨d6,fun i hi=>?_⟩,fB,by omega,fun D H6 bB db b6 eH d7 ea=>⟨rfl,?_⟩⟩
 . refine hZq fun q_ e_=>?_;obtain⟨q,a1,a2,_⟩:=eo i hi;subst e_;exact⟨q,a1,sx _ _ a2⟩
 refine aj ?_;refine⟨_,rfl,D,bs.length,us.length,C,bs.map scl,us,ws,pl,bR,Lf bs us,by rw[bB];rfl,by rw[db];exact hk,eH,hz.wb hg us,fun pl' ls' Tb H7 bx fq e4=>?_⟩
 have o6:∀ {y:Addr} {o:HO},H y=some o->H6 y=some o:=fun{y o} e=>b6 _ _ (fun z=>by rw[z,c4]at e;cases e) (sx _ _ (oH e))
 have fresh:∀ {y:Addr},(upd (upd H5 dx (.own x)) x (.ins C0 dx [])) y=none->H y=none:=fun{y} n=>by
  cases qq:H y with
  |none=>rfl
  |some o=>rw[sx _ _ (oH qq)]at n;cases n
 have nH:∀ {y z:Addr} {o:HO},H y=some o->H z=none->y≠z:=fun{y z o} e n w=>by rw[w,n]at e;cases e
 have res:=q D H7 us ws pl' ls' Tb db (fun y o e=>bx _ _ (by rw[bB];exact nH e c4) (nH e (fresh d7)) (nH e (fresh ea)) (o6 e)) fq e4 eg cb uT bi (by rw[bB];exact c4) (fresh d7) (fresh ea)
 rw[bB]at res;exact⟨_,rfl,res⟩
theorem big3{C:Nat}{x y:Int}(h:x.natAbs<=C)(h2:y.natAbs<=C+1)(hb:C < lim):Big (x*y):=by
 unfold Big;rw[zM];exact zg (AI (zh h (Aj hb)) (zh h2 hb)) (zg (Nat.le_of_eq (Nat.pow_add 2 2600 2600).symm) (AB (by decide) (by decide)))
def TmIn(us:List Tr)(bs:List Bnd):Prop:=us.Nodup/\∀x,x∈us↔∃b∈bs,∃p∈b.ps,p.1=x
structure WOut (T0:Addr) (H H':Hp) (bs:List Bnd) (l:Addr) (ws2:List V) (us2 us:List Tr) (Tb:Wg.Tb) (i:Nat):Prop where
 bt:ButT T0 H H'
 lm:Lm T0 H'
 ok:Okt bs.length us.length (Lf bs us) Tb
 hi:i < bs.length
 hs:Tb.sd i < bs.length
 ng:Ngv us.length Tb i
 le:∀c,c < us.length->Tb.ln i c<=0
 wt:tS H H' l ws2 us2 (wts (bs.map scl) (cnt us.length Tb i))
 tm:TmIn us bs
 nw:∀xs,H l≠some (.lst xs)
structure NOut (P:Program) (w:World) (K:PySem.W.Frag) (T0:Addr) (H H':Hp) (bs:List Bnd) (C:Nat) (d:Addr) (us:List Tr) (Tb:Wg.Tb) (M:Int) (G:Tr->Fr):Prop where
 bt:ButT T0 H H'
 lm:Lm T0 H'
 ok:Okt bs.length us.length (Lf bs us) Tb
 no:∀i,i < bs.length->Tb.sd i < bs.length->¬Ngv us.length Tb i
 m1:1<=M
 mc:M<=(C:Int)+1
 mp:∀i,i < bs.length->Tb.sd i < bs.length->0 < Tb.ln i us.length-> -(Tb.ln i (us.length+1) / Tb.ln i us.length)<=M
 da:Dj.DAt P w K H' d us G
 g:∀j u,us[j]?=some u->G u=(fx (Wg.pt bs.length us.length M Tb (bs.length+j)) (Tb.bot*M),fy (Wg.pt bs.length us.length M Tb (bs.length+j)) (Tb.bot*M))
 tm:TmIn us bs
 dn:H d=none
 lmd:∀o,Lm T0 (upd H' d o)
def mh(P:Program)(w:World)(K:PySem.W.Frag)(T0:Addr):Sp:=fun vs H Q _=>∃(lb:Addr) (xs:List V) (bs:List Bnd) (T:List Tr) (e X Y S k C:Nat),vs= [.ref lb]/\H lb=some (.lst xs)/\TrsAt H xs (bs.map bdT)/\(∀b∈bs,Gbd T e b)/\e<=8000/\T.length < 60/\bs.length<=64/\k<=60/\Bz bs X Y S k C/\Lm T0 H/\
 (∀r l H' ws2 us2 us Tb i,H' r=some (.tup [.str (Str.ofString "weights"), .ref l])->WOut T0 H H' bs l ws2 us2 us Tb i->Q (.ref r) H')/\
 ∀r d H' us Tb M G,H' r=some (.tup [.str (Str.ofString "numbers"), .ref d])->NOut P w K T0 H H' bs C d us Tb M G->Q (.ref r) H'
theorem scWgd:FnScope ["bounds","table","weights"] ["bounds"] (ah sWgd):= .of
theorem wD{f C0:Addr}{fd:FuncData}(F:Fun K "weighed" "weighed" sWgd f fd)(hk:Tk K C0)(zTo:Cl P w K mg base 43 "table_of" ["bounds","sums"] (qk C0))(zRe:Cl P w K mg base 5 "refuted" ["table"] (qA (K:=K) T0))(zNu:Cl P w K mg base 3 "numbers_at" ["table","point"] (qB (P:=P) (w:=w) (K:=K)))(zSt:Cl P w K mg base 3 "strict_point" ["table"] (qt (K:=K))):
 FnOk P w K mg base CX0 44 f fd ["bounds"] (mh P w K T0):=by
 refine F.okb scWgd fun vs H Q E h=>?_;refine hZq fun q_ e_=>?_;obtain⟨lb,xs,bs,T,e,X,Y,S,k,C,rfl,bF,a4,hg,he,au,bI,bC,hz,bx,kw,kn⟩:=h;subst e_;refine⟨rfl,fun b8 A outer s hr=>?_⟩;have b6:Room 5 _:=hr.mono (by decide)
 have a1:Room 3 _:=hr.mono (by decide)
 refine⟨_,ad (psA 1 scWgd.nd (ak zTo hr (a0 (pv 0) (a0 (c5 aa) aa))))
  (ad (psA 2 scWgd.nd (ak zRe b6 (a0 (pv 1) aa)))
  (ad (bG (wo (uE (pv 2)) (ay _)) (ai (az (aY (a0 cM (a0 (pv 2) aa))))) aO)
  (ai (az (aY (a0 cM (a0 (ak zNu a1 (a0 (pv 1) (a0 (ak zSt a1 (a0 (pv 1) aa)) aa))) aa))))))),?_⟩
 refine⟨_,rfl,(by show 0<=sizeLine;omega),fun l0 bg=>?_⟩
 have s0:=ae (o:= .lst []) bg;refine⟨lb,l0,xs,[],bs,[],T,e,X,Y,S,k,C,rfl,s0 _ _ bF,a4.mono (Kd.of_same s0),a8, .nil,hg,(fun ps m=>by cases m),he,au,bI,by show 0<=64;decide,bC,hz,fun D H1 us ws pl ls Tb a3 s1 tb ok aT b7 uT af bb a5 bR=>?_⟩
 have sA:=s0.trans s1;have q:TmIn us bs:=⟨aT,fun x=>(af x).trans ⟨fun h=>h.elim id (fun⟨_,m,_⟩=>(by cases m)),fun h=>Or.inl h⟩⟩
 have fr:∀ {y:Addr},(upd H l0 (.lst [])) y=none->H y=none:=fun{y} n=>s0.free n;have v:∀ {H':Hp},ButY T0 D H1 H'->ButT T0 H H':=fun{H'} b x o n ex=>b x o n (fun z=>by rw[z,fr bb]at ex;cases ex) (fun z=>by rw[z,fr a5]at ex;cases ex) (fun z=>by rw[z,fr bR]at ex;cases ex) (sA _ _ ex)
 have hW:=hz.wb hg us;have ac:Tk K D.C:=by rw[a3];exact hk
 refine aj ?_;refine⟨_,rfl,D,bs.length,us.length,C,bs.map scl,us,ws,pl,ls,Lf bs us,Tb,rfl,ac,tb,hW,ok,bx.same sA,by omega,fun pl' ls' g H2 bY a aC c a6=>?_,fun g i l H2 ws2 us2 bY a c hi hs bj a7 bi _ _ bw=>?_⟩
 . refine aj ?_;refine⟨_,rfl,_,rfl,?_⟩;rw[decide_eq_true rfl];refine iteF (cC ?_);refine⟨_,rfl,_,rfl,D,bs.length,us.length,C,bs.map scl,us,ws,pl',ls',Lf bs us,g,rfl,ac,aC,hW,c,fun t l H3 M s3 ht hl m1 mc mp=>?_⟩;have bB:=(hW.bnd c.inv c.pm).1;refine⟨D,bs.length,us.length,bs.map scl,us,ws,pl',ls',g,t,l,g.bot*M,_,rfl,ac,aC.same s3,ht,hl,Ax c.inv.pos (by omega),big3 bB (by omega) hz.big,aT,fun u mu=>?_,fun d H4 G nd s4 da hG=>?_⟩
   . refine hZq fun q_ e_=>?_;obtain⟨b,mb,p,a2,rfl⟩:=(q.2 u).mp mu;subst e_;exact⟨((hg b mb).ps p a2).2.ty,((hg b mb).ps p a2).2.dep⟩
   . have bT:ButT T0 H H4:=v ((bY.trans (.of_same s3)).trans (.of_same s4))
     have dH:H d=none:=by
      cases qq:H d with
      |none=>rfl
      |some o=>
       by_cases z:d=T0
       . subst z;obtain⟨ps,hp⟩:=(a.same s3).tbl;rw[hp]at nd;cases nd
       . have:=v (bY.trans (.of_same s3)) _ _ z qq;rw[this]at nd;cases nd
     refine⟨two,fun r nr=>?_⟩;have j:=ae (o:= .tup [.str (Str.ofString "numbers"), .ref d]) nr;exact kn r d _ us g M G a8 ⟨fun x o n ex=>j _ _ (bT x o n ex),((a.same s3).same s4).same j,c,a6,m1,mc,mp,da.same j,hG,q,dH,fun o=>Lm.same (fun x u e=>by rw[ag (fun z=>by rw[z,nd]at e;cases e)];exact j _ _ (s4 _ _ e)) (a.same s3)⟩
 . refine aj ?_;refine⟨_,rfl,_,rfl,?_⟩;rw[decide_eq_false (by intro z;cases z)]
   refine iteT ?_;refine⟨_,rfl,two,fun r nr=>?_⟩;have j:=ae (o:= .tup [.str (Str.ofString "weights"), .ref l]) nr;refine hZq fun q_ e_=>?_;obtain⟨w1,w2,w3,w4⟩:=bi;subst e_;exact kw r l _ ws2 us2 us g i a8 ⟨fun x o n ex=>j _ _ (v bY x o n ex),a.same j,c,hi,hs,bj,a7,⟨j _ _ w1,w2.mono (Kd.of_same j),w3,w4⟩,q,fun ys z=>bw ys (sA _ _ z)⟩
def ofB(b:Bnd):Bd:=⟨b.ps,b.lim,b.st⟩
theorem ft{t b:Int}(h:0 < b):rv ((fx t b,fy t b):Fr)=(t:Rat) / (b:Rat):=by
 have a:0 < Int.gcd t b:=A3 t (by omega)
 have e:((fx t b,fy t b):Fr)=low t b:=by
  unfold fx fy low dv;rw[if_neg (by omega),Ae _ (by omega),Ae _ (by omega)]
 rw[e];exact gP h
theorem bp{b:Int}(h:0 < b):(b:Rat)≠0:=by
 intro z;have:b=0:=by exact_mod_cast z
 omega
theorem cF{b:Int}(h:0 < b):(0:Rat) < (b:Rat):=by exact_mod_cast h
theorem jL{f:Fr}{s:Int}(h:0 < f.2)(d:f.2∣s):((wh f s:Int):Rat)=rv f*(s:Rat):=by
 obtain⟨q,rfl⟩:=d;have n:=bp h;unfold wh rv;rw[Int.mul_ediv_cancel_left _ (by omega)]
 simp only[Rat.intCast_mul];rw[Rat.div_def];grind
theorem nV{s:Int}{t:Tr}:∀ {a:List Pq},(∀q∈a,q.1≠t)->cw s t a=0
 | [],_=>rfl
 |p::r,h=>by
  simp only[cw];rw[if_neg (h p z6)];exact nV fun q m=>h q (z5 _ m)
theorem tP{p:Pq}{r:List Pq}(h:Asc (p::r)):Asc r/\∀q∈r,q.1≠p.1:=by
 have:=List.pairwise_cons.mp h;exact⟨this.2,fun q m e=>mY (this.1 q m) e.symm⟩
open Classical in
theorem nW{s:Int}{t:Tr}{p:Pq}{r:List Pq}(h:∀q∈r,q.1≠p.1):cw s t (p::r)=(if p.1=t then wh p.2 s else 0)+cw s t r:=by
 simp only[cw];by_cases e:p.1=t
 . rw[if_pos e,if_pos e,nV fun q m=>by rw[<-e];exact h q m,Int.add_zero]
 . rw[if_neg e,if_neg e,Ap]
noncomputable def linI(s:Int)(x:Tr->Int):List Pq->Int
 | []=>0
 |p::r=>wh p.2 s*x p.1+linI s x r
theorem pS{us:List Tr}(nd:us.Nodup){s:Int}{X:Nat->Int}:∀ {ps:List Pq},Asc ps->(∀p∈ps,p.1∈us)->(Wg.sumN us.length fun c=>cw s (us.getD c .non) ps*X c)=linI s (fun t=>X (Fm.ix us t)) ps
 | [],_,_=>Wg.sumN_zero fun c _=>by simp[cw]
 |p::r,ha,hm=>by
  obtain⟨b,hne⟩:=tP ha;have g:=pS nd (s:=s) (X:=X) b fun q m=>hm q (z5 _ m);simp only[linI];rw[<-g]
  classical
  have e1:(Wg.sumN us.length fun c=>cw s (us.getD c .non) (p::r)*X c)=Wg.sumN us.length fun c=>(if p.1=us.getD c .non then wh p.2 s else 0)*X c+cw s (us.getD c .non) r*X c:=Wg.sumN_congr fun c _=>by rw[nW hne,Int.add_mul]
  rw[e1,Wg.sumN_add];congr 1;have mp:=hm p z6;have d:=ix_at mp;have e:=yP mp;have f:us.getD (Fm.ix us p.1) .non=p.1:=by rw[zd,d];rfl
  rw[Wg.sumN_one e fun c hc a=>?_]
  . rw[f,if_pos rfl]
  . rw[if_neg,Af];intro z;refine a (sj nd (x:=p.1) ?_ d);rw[yZ hc,z,zd,yZ hc];rfl
theorem jr{s:Int}{x:Tr->Int}{g:Tr->Rat}{D:Rat}:∀ {ps:List Pq},(∀p∈ps,0 < p.2.2/\p.2.2∣s)->(∀p∈ps,((x p.1:Int):Rat)=g p.1*D)->((linI s x ps:Int):Rat)=(s:Rat)*D*lin g ps
 | [],_,_=>by simp only[linI,lin];grind
 |p::r,h1,h2=>by
  have a:=jr (s:=s) (x:=x) (g:=g) (D:=D) (ps:=r) (fun q m=>h1 q (z5 _ m)) fun q m=>h2 q (z5 _ m);simp only[linI,lin,Rat.intCast_add,Rat.intCast_mul];rw[a,jL (h1 p z6).1 (h1 p z6).2,h2 p z6];grind
theorem pz{s:Int}{t:Tr}:∀ {ps:List Pq},Asc ps->(∀p∈ps,0 < p.2.2/\p.2.2∣s)->((cw s t ps:Int):Rat)=tot t ps*(s:Rat)
 | [],_,_=>by simp only[cw,tot];grind
 |p::r,ha,h1=>by
  obtain⟨a,hne⟩:=tP ha;have b:=pz (s:=s) (t:=t) a fun q m=>h1 q (z5 _ m);rw[nW hne];simp only[tot,Rat.intCast_add];rw[b];by_cases e:p.1=t
  . rw[if_pos e,if_pos e,jL (h1 p z6).1 (h1 p z6).2];grind
  . rw[if_neg e,if_neg e];grind
open Classical in
noncomputable def gw(us:List Tr)(G:Tr->Fr)(t:Tr):Rat:=if t∈us then rv (G t)else 0
theorem js{bs:List Bnd}{us:List Tr}{k:Nat}{b:Bnd}(e:bs[k]?=some b):Lf bs us k=rowF us b:=by
 unfold Lf;rw[zd,e];rfl
theorem NOut.met{P:Program}{w:World}{K:PySem.W.Frag}{T0 d:Addr}{H H':Hp}{bs:List Bnd}{C:Nat}{us:List Tr}{Tb:Wg.Tb}{M:Int}{G:Tr->Fr}{T:List Tr}{e:Nat}(hg:∀b∈bs,Gbd T e b)(h:NOut P w K T0 H H' bs C d us Tb M G):
 ∀b∈bs,lin (gw us G) b.ps < rv b.lim\/(lin (gw us G) b.ps=rv b.lim/\b.st=false):=by
 intro b mb;obtain⟨k,hk,ek⟩:=Ah mb;have m:bs[k]?=some b:=by rw[yZ hk,ek]
 have f:=hg b mb;obtain⟨s0,sd,ld⟩:=f.scl_ok;have m1:=h.m1;have b0:=h.ok.inv.pos;have pm:=Wg.pt_meets h.ok.inv h.ok.pm (K:=M) (fun i hi hs=>?_) hk;rotate_left
 . have nn:=h.no i hi hs;unfold Ngv at nn;unfold Wg.val;by_cases u:0 < Tb.ln i us.length
   . exact Wg.parts_ok u (h.mp i hi hs u)
   . have u0:Tb.ln i us.length=0:=by omega
     rw[u0,Aq,Ap];omega
 have v:=js (us:=us) m;rw[v]at pm
 have e1:(Wg.sumN us.length fun c=>rowF us b c*Wg.pt bs.length us.length M Tb (bs.length+c))= -1*linI (scl b) (fun t=>Wg.pt bs.length us.length M Tb (bs.length+Fm.ix us t)) b.ps:=by
  rw[<-pS h.tm.1 f.asc (fun p mp=>(h.tm.2 p.1).mpr ⟨b,mb,p,mp,rfl⟩) (X:=fun c=>Wg.pt bs.length us.length M Tb (bs.length+c)),<-Wg.sumN_mul];refine Wg.sumN_congr fun c hc=>?_;unfold rowF;rw[if_pos hc];grind
 have e2:rowF us b us.length=wh b.lim (scl b):=by unfold rowF;rw[if_neg (by omega),if_pos rfl]
 have y:rowF us b (us.length+1)=if b.st then -1 else 0:=by unfold rowF;rw[if_neg (by omega),if_neg (by omega)]
 rw[e1,e2,y]at pm;have j:(0:Int) < Tb.bot*M:=Ax b0 (by omega)
 have Dn:=bp j
 have lr:=jr (s:=scl b) (x:=fun t=>Wg.pt bs.length us.length M Tb (bs.length+Fm.ix us t)) (g:=gw us G) (D:=((Tb.bot*M:Int):Rat)) (ps:=b.ps) (fun p mp=>⟨(f.ps p mp).2.gf.pos,sd p mp⟩) fun p mp=>by
  have o:p.1∈us:=(h.tm.2 p.1).mpr ⟨b,mb,p,mp,rfl⟩;unfold gw;rw[if_pos o,h.g _ _ (ix_at o),ft j];rw[Rat.div_def];grind
 have wr:=jL (s:=scl b) f.lim.pos ld;have r:=cF s0;have q:=cF j;have B0:=cF b0;have n:(0:Rat) < (scl b:Rat)*((Tb.bot*M:Int):Rat):=Rat.mul_pos r q
 have key:((linI (scl b) (fun t=>Wg.pt bs.length us.length M Tb (bs.length+Fm.ix us t)) b.ps:Int):Rat)<=((Tb.bot*(M*wh b.lim (scl b)+(if b.st=true then -1 else 0)):Int):Rat):=by
  have:linI (scl b) (fun t=>Wg.pt bs.length us.length M Tb (bs.length+Fm.ix us t)) b.ps<=Tb.bot*(M*wh b.lim (scl b)+(if b.st=true then -1 else 0)):=by omega
  exact_mod_cast this
 rw[lr]at key
 cases a:b.st with
 |true=>
  rw[a,if_pos rfl]at key;left;refine Rat.not_le.mp fun z=>?_;have:=Rat.mul_le_mul_of_nonneg_left z (Rat.le_of_lt n);simp only[Rat.intCast_add,Rat.intCast_mul,Rat.intCast_neg]at key this wr;rw[wr]at key;have l:(((1:Int):Rat))=1:=rfl;rw[l]at key;grind
 |false=>
  rw[a,if_neg (by decide)]at key
  have le:lin (gw us G) b.ps<=rv b.lim:=by
   refine Rat.not_lt.mp fun z=>?_;have:=Rat.mul_lt_mul_of_pos_left z n;simp only[Rat.intCast_add,Rat.intCast_mul]at key this wr;rw[wr]at key;have l:(((0:Int):Rat))=0:=rfl;rw[l]at key;grind
  rcases Rat.le_iff_lt_or_eq.mp le with h|h
  . exact .inl h
  . exact .inr ⟨h,rfl⟩
noncomputable def sumL(F:Nat->Int):List (Nat×Int)->Int
 | []=>0
 |p::r=>p.2*F p.1+sumL F r
theorem pW(F:Nat->Int)(a b:List (Nat×Int)):sumL F (a++b)=sumL F a+sumL F b:=by
 induction a with
 |nil=>simp only[AD,sumL,Ap]
 |cons p r c=>simp only[zX,sumL,c,Int.add_assoc]
theorem jR{F:Nat->Int}{T:Wg.Tb}{i:Nat}:∀n:Nat,sumL F (hcs n T i)=Wg.sumN n fun c=> -T.ln i c*F (T.hd c)
 |0=>rfl
 |n+1=>by
  have e:hcs (n+1) T i=hcs n T i++if T.ln i n≠0 then[(T.hd n,-T.ln i n)]else[]:=by
   unfold hcs;rw[A9,A4,zu];congr 1;by_cases z:T.ln i n=0
   . simp[z]
   . simp[z]
  rw[e,pW,jR n,Wg.sumN];congr 1;by_cases z:T.ln i n=0
  . rw[if_neg (by simpa using z),z]
    simp[sumL]
  . rw[if_pos z];simp[sumL]
theorem gE{m n:Nat}{L:Nat->Nat->Int}{T:Wg.Tb}(O:Okt m n L T){i:Nat}(hi:i < m)(hs:T.sd i < m)(F:Nat->Int):sumL F (cnt n T i)=Wg.sumN m fun k=>Wg.wt n T i k*F k:=by
 rw[Wg.wt_sum O.pm O.st hi hs];unfold cnt;simp only[sumL];rw[jR]
theorem g9{p:Fr}(h:0 < p.2):0 < rv p↔0 < p.1:=by
 have h2:(0:Rat) < (p.2:Rat):=by exact_mod_cast h
 unfold rv;constructor
 . intro q
   have:(0:Rat) < (p.1:Rat):=by
    have:=Rat.mul_pos q h2
    rwa [Rat.div_mul_cancel (by grind)]at this
   exact_mod_cast this
 . intro q;have a:(0:Rat) < (p.1:Rat):=by exact_mod_cast q
   rw[Rat.div_def];exact Rat.mul_pos a (Rat.inv_pos.mpr h2)
structure Wts (bs:List Bnd) (wk:List Wt):Prop where
 ne:wk≠ []
 asc:wk.Pairwise fun a b=>a.1 < b.1
 lt:∀k∈wk,k.1 < bs.length
 sh:∀k∈wk,Sh k.2
 pos:∀k∈wk,0 < k.2.1
 tot:∀t,tot t (aW (bs.map ofB) wk)=0
 low:totR (bs.map ofB) wk < 0\/(totR (bs.map ofB) wk=0/\∃k∈wk,(bdAt (bs.map ofB) k.1).st=true)
theorem iq{bs:List Bd}{t:Tr}{a b:List Wt}(h:a.Perm b):Su.tot t (aW bs a)=Su.tot t (aW bs b):=by
 induction h with
 |nil=>rfl
 |cons x _ c=>simp only[aW,dO,c]
 |swap x y l=>simp only[aW,dO];grind
 |trans _ _ h1 h2=>rw[h1,h2]
theorem oo{bs:List Bd}{a b:List Wt}(h:a.Perm b):totR bs a=totR bs b:=by
 induction h with
 |nil=>rfl
 |cons x _ c=>simp only[totR,c]
 |swap x y l=>simp only[totR];grind
 |trans _ _ h1 h2=>rw[h1,h2]
theorem fj{bs:List Bnd}{k:Nat}{b:Bnd}(e:bs[k]?=some b):bdAt (bs.map ofB) k=ofB b:=by
 unfold bdAt;rw[zd,z7,e];rfl
theorem nJ{bs:List Bnd}{us T:List Tr}{e:Nat}(hg:∀b∈bs,Gbd T e b){g:Int}(g0:0 < g){t:Tr}{c:Nat}(hc:us[c]?=some t):∀ {cs:List (Nat×Int)},(∀p∈cs,p.1 < bs.length)->
 Su.tot t (aW (bs.map ofB) (cs.map fun p=>(p.1,wf (bs.map scl) g p)))*(g:Rat)= -((sumL (fun k=>Lf bs us k c) cs:Int):Rat)
 | [],_=>by simp only[AF,aW,Su.tot,sumL];grind
 |p::r,h=>by
  have o:=nJ hg g0 hc (cs:=r) fun q m=>h q (z5 _ m);have hp:=h p z6;have i:bs[p.1]?=some bs[p.1]:=yZ hp;have mb:=A7 hp;have d:=hg _ mb;obtain⟨n,sd,_⟩:=d.scl_ok;have es:(bs.map scl).getD p.1 0=scl bs[p.1]:=by rw[zd,z7,i];rfl
  have f:Sh (wf (bs.map scl) g p):=di (by omega)
  have j:rv (wf (bs.map scl) g p)=((p.2*scl bs[p.1]:Int):Rat) / (g:Rat):=by
   unfold wf;rw[ft g0,es]
  have cl:c < us.length:=(zb.mp hc).1
  have l:Lf bs us p.1 c= -(cw (scl bs[p.1]) t bs[p.1].ps):=by
   rw[js i];unfold rowF;rw[if_pos cl,zd,hc];rfl
  have tc:=pz (s:=scl bs[p.1]) (t:=t) d.asc fun q a=>⟨(d.ps q a).2.gf.pos,sd q a⟩;have u:=bp g0;simp only[zj,aW,sumL];rw[dO,fj i];show(Su.tot t (bs[p.1].ps.map (scale (wf (bs.map scl) g p)))+_)*_=_;rw[iB t f fun q a=>(d.ps q a).2.sh,j,l];simp only[Rat.intCast_add,Rat.intCast_mul,Rat.intCast_neg];rw[tc];rw[Rat.div_def];grind
theorem md{bs:List Bnd}{us T:List Tr}{e:Nat}(hg:∀b∈bs,Gbd T e b){g:Int}(g0:0 < g):∀ {cs:List (Nat×Int)},(∀p∈cs,p.1 < bs.length)->
 totR (bs.map ofB) (cs.map fun p=>(p.1,wf (bs.map scl) g p))*(g:Rat)=((sumL (fun k=>Lf bs us k us.length) cs:Int):Rat)
 | [],_=>by simp only[AF,totR,sumL];grind
 |p::r,h=>by
  have l:=md (us:=us) hg g0 (cs:=r) fun q m=>h q (z5 _ m);have hp:=h p z6;have c:bs[p.1]?=some bs[p.1]:=yZ hp;have d:=hg _ (A7 hp);obtain⟨j,sd,f⟩:=d.scl_ok;have es:(bs.map scl).getD p.1 0=scl bs[p.1]:=by rw[zd,z7,c];rfl
  have a:rv (wf (bs.map scl) g p)=((p.2*scl bs[p.1]:Int):Rat) / (g:Rat):=by
   unfold wf;rw[ft g0,es]
  have i:Lf bs us p.1 us.length=wh bs[p.1].lim (scl bs[p.1]):=by
   rw[js c];unfold rowF;rw[if_neg (by omega),if_pos rfl]
  have tc:=jL (s:=scl bs[p.1]) d.lim.pos f;have n:=bp g0;simp only[zj,totR,sumL];rw[fj c];show(rv bs[p.1].lim*_+_)*_=_;rw[a,i];simp only[Rat.intCast_add,Rat.intCast_mul];rw[tc,Rat.div_def];grind
theorem vB{bs:List Bnd}{us:List Tr}:∀ {cs:List (Nat×Int)},(∀p∈cs,p.1 < bs.length)->sumL (fun k=>Lf bs us k (us.length+1)) cs < 0->∃p∈cs,(bdAt (bs.map ofB) p.1).st=true
 | [],_,z=>absurd z (by simp[sumL])
 |p::r,h,z=>by
  have hp:=h p z6;have b:bs[p.1]?=some bs[p.1]:=yZ hp
  cases a:bs[p.1].st with
  |true=>exact⟨p,z6,by rw[fj b];exact a⟩
  |false=>
   have c:Lf bs us p.1 (us.length+1)=0:=by
    rw[js b];unfold rowF;rw[if_neg (by omega),if_neg (by omega),a]
    rfl
   simp only[sumL]at z;rw[c,Aq,Ap]at z;obtain⟨q,d,hq⟩:=vB (fun q m=>h q (z5 _ m)) z;exact⟨q,z5 _ d,hq⟩
theorem yM{a b:Wt}(h:a.1 < b.1):ltT (wtT a) (wtT b)=true:=by
 rw[ltT_iff];simp only[wtT,Tre.code,codes,LtC,LtCs];left;omega
theorem vg{m n:Nat}{L:Nat->Nat->Int}{T:Wg.Tb}(O:Okt m n L T){i:Nat}(hle:∀c,c < n->T.ln i c<=0):∀p∈cnt n T i,0 < p.2:=by
 intro p mp;unfold cnt at mp;rcases zc.mp mp with rfl|mp
 . exact O.inv.pos
 . obtain⟨c,hc,hz,rfl⟩:=jj mp;have:=hle c hc;show 0 < -T.ln i c;omega
theorem xP{m n:Nat}{L:Nat->Nat->Int}{T:Wg.Tb}(O:Okt m n L T){i:Nat}(hi:i < m):((cnt n T i).map (·.1)).Nodup:=by
 unfold cnt;rw[zj,AC];refine⟨fun z=>?_,?_⟩
 . obtain⟨p,mp,e⟩:=zJ.mp z;obtain⟨c,hc,_,rfl⟩:=jj mp;exact O.pm.disj hi hc e.symm
 . unfold hcs;rw[AG];show(List.map (fun c=>T.hd c) _).Nodup;rw[An,List.pairwise_map];have:((List.range n).filter fun c=>decide (T.ln i c≠0)).Nodup:=List.nodup_range.filter _;rw[An]at this;refine List.Pairwise.imp_of_mem (fun{a b} ma mb h z=>h ?_) this;have h1:=zZ.mp (Aa.mp ma).1;have h2:=zZ.mp (Aa.mp mb).1;exact O.pm.injh h1 h2 z
theorem WOut.wts{T0 l:Addr}{H H':Hp}{bs:List Bnd}{ws2:List V}{us2 us T:List Tr}{Tb:Wg.Tb}{i e C:Nat}(hg:∀b∈bs,Gbd T e b)(hW:Wb bs.length us.length (Lf bs us) (bs.map scl) C)(h:WOut T0 H H' bs l ws2 us2 us Tb i):
 ∃wk:List Wt,us2=wk.map wtT/\Wts bs wk/\wk.length<=us.length+1/\∀k∈wk,k.2.1.natAbs<=C*C/\k.2.2.natAbs<=C*C:=by
 obtain⟨w1,w2,w3,w4⟩:=h.wt;obtain⟨qs,rfl,s⟩:=gU w3 rfl;have w:=hW.cnts h.ok h.hi h.hs;have aC:=nG (n:=us.length) (T:=Tb) (i:=i);obtain⟨o,g1⟩:=hW.gcn (by rw[yY]) h.ok h.hi h.hs
 have cl:∀p∈cnt us.length Tb i,p.1 < bs.length:=fun p mp=>(w p mp).1;have cp:=vg h.ok h.le
 have ac:∀p∈cnt us.length Tb i,0 < (bs.map scl).getD p.1 0/\((bs.map scl).getD p.1 0).natAbs<=C:=fun p mp=>by
  refine hW.sc _ ?_;rw[zd,yZ (by rw[yY];exact cl p mp)]
  exact A7 _
 have mq:∀k∈qs,∃p∈cnt us.length Tb i,k=(p.1,wf (bs.map scl) (gcn (bs.map scl) (cnt us.length Tb i)) p):=fun k mk=>by
  have:=s.mem_iff.mp mk;unfold K39.wts at this;obtain⟨p,mp,e⟩:=zJ.mp this;exact⟨p,mp,e.symm⟩
 have v:∀k∈qs,0 < k.2.1:=fun k mk=>by
  obtain⟨p,mp,rfl⟩:=mq k mk;have sh:Sh (wf (bs.map scl) (gcn (bs.map scl) (cnt us.length Tb i)) p):=di (by omega)
  refine(g9 sh.1).mp ?_;unfold wf;rw[ft o,Rat.div_def];exact Rat.mul_pos (cF (Ax (cp p mp) (ac p mp).1)) (Rat.inv_pos.mpr (cF o))
 have g:(qs.map (·.1)).Nodup:=by
  rw[(s.map (·.1)).nodup_iff];unfold K39.wts;rw[AG];exact xP h.ok h.hi
 have u:∀t,Su.tot t (aW (bs.map ofB) qs)=0:=fun t=>by
  rw[iq s];unfold K39.wts;by_cases mu:t∈us
  . obtain⟨c,hc,ec⟩:=Ah mu;have au:us[c]?=some t:=by rw[yZ hc,ec]
    have f:=nJ hg o au cl;rw[gE h.ok h.hi h.hs,Wg.wt_term h.ok.inv h.ok.pm h.ok.st h.hi h.hs hc]at f;have gn:=bp o
    have:Su.tot t (aW (bs.map ofB) ((cnt us.length Tb i).map fun p=>(p.1,wf (bs.map scl) (gcn (bs.map scl) (cnt us.length Tb i)) p)))*(gcn (bs.map scl) (cnt us.length Tb i):Rat)=0:=by
     rw[f];rfl
    rcases Rat.mul_eq_zero.mp this with z|z
    . exact z
    . exact absurd z gn
  . refine jQ fun p mp e=>mu ?_
    have fl:∀ {wk:List Wt},(∀k∈wk,k.1 < bs.length)->∀p∈aW (bs.map ofB) wk,∃b∈bs,∃q∈b.ps,q.1=p.1:=by
     intro wk
     induction wk with
     |nil=>intro _ p mp;cases mp
     |cons k r ih=>
      intro hk p mp;simp only[aW]at mp;rcases zv.mp mp with mp|mp
      . rw[fj (yZ (hk k z6))]at mp;obtain⟨q,j,rfl⟩:=zJ.mp mp;exact⟨_,A7 _,q,j,rfl⟩
      . exact ih (fun x m=>hk x (z5 _ m)) p mp
    obtain⟨b,mb,q,j,eq⟩:=fl (fun k mk=>by obtain⟨p,mp,rfl⟩:=zJ.mp mk;exact cl p mp) p mp
    exact(h.tm.2 t).mpr ⟨b,mb,q,j,eq.trans e⟩
 obtain⟨l1,l2⟩:=Wg.wt_last h.ok.inv h.ok.pm h.ok.st h.hi h.hs;have fR:=md (us:=us) hg o cl;rw[gE h.ok h.hi h.hs,l1]at fR;have eR:totR (bs.map ofB) qs=totR (bs.map ofB) ((cnt us.length Tb i).map fun p=>(p.1,wf (bs.map scl) (gcn (bs.map scl) (cnt us.length Tb i)) p)):=oo s;have gp:=cF o
 have d:qs.length=(cnt us.length Tb i).length:=by
  rw[s.length_eq];unfold K39.wts;rw[yY]
 refine⟨qs,rfl,⟨?_,?_,fun k mk=>?_,fun k mk=>?_,v,u,?_⟩,?_,fun k mk=>?_⟩
 . intro z;rw[z]at d;unfold cnt at d;simp at d
 . rw[An,List.pairwise_map]at g;rw[A6]at g ⊢;intro a b ha hb af;have ne:=g a b ha hb af;have le:=w4 a b (wtT qs[a]) (wtT qs[b]) (by omega) (by rw[z7,yZ ha];rfl) (by rw[z7,yZ hb];rfl)
   refine Classical.byContradiction fun z=>?_;have:=yM (a:=qs[b]) (b:=qs[a]) (by omega)
   rw[this]at le;cases le
 . obtain⟨p,mp,rfl⟩:=mq k mk;exact cl p mp
 . obtain⟨p,mp,rfl⟩:=mq k mk;exact di (by omega)
 . rcases h.ng with z|⟨z1,z2⟩
   . left;rw[eR];refine Rat.not_le.mp fun y=>?_;have y2:=Rat.mul_nonneg y (Rat.le_of_lt gp);rw[fR]at y2;have:(0:Int)<=Tb.ln i us.length:=by exact_mod_cast y2
     omega
   . right;rw[z1]at fR;refine⟨?_,?_⟩
     . rw[eR];rcases Rat.mul_eq_zero.mp (fR.trans rfl)with y|y
       . exact y
       . exact absurd y (bp o)
     . obtain⟨p,mp,hp⟩:=vB (us:=us) cl (by rw[gE h.ok h.hi h.hs,l2];exact z2)
       refine⟨(p.1,wf (bs.map scl) (gcn (bs.map scl) (cnt us.length Tb i)) p),?_,hp⟩;rw[s.mem_iff];unfold K39.wts;exact zJ.mpr ⟨p,mp,rfl⟩
 . rw[d];unfold cnt;rw[zq];omega
 . obtain⟨p,mp,rfl⟩:=mq k mk;obtain⟨pm,pb⟩:=w p mp
   have d0:0 < dv (p.2*(bs.map scl).getD p.1 0) (gcn (bs.map scl) (cnt us.length Tb i)):=by
    have:=A3 (p.2*(bs.map scl).getD p.1 0) (show gcn (bs.map scl) (cnt us.length Tb i)≠0 by omega)
    unfold dv;rw[if_neg (by omega)]
    omega
   refine⟨?_,?_⟩
   . show(fx _ _).natAbs<=C*C;unfold fx;rw[Ae _ (by omega)]
     refine zh (dk _ _) ?_;rw[zM];exact AI pb (ac p mp).2
   . show(fy _ _).natAbs<=C*C;unfold fy;rw[Ae _ (by omega)]
     exact zh (dk _ _) g1
end
end K39
namespace K39
open PySem L2 Mth Tre Wd Su
section
variable{P:Program}{w:World}{K:PySem.W.Frag}{mg:Str->Option Value}{base:Heap}{T0:Addr}
def gJ:Sp:=fun vs H Q _=>∃(t b:Int),vs= [.int t, .int b]/\0 < b/\Big (Int.gcd t b:Int)/\∀(r:Addr) (H':Hp),H r=none->H'=upd H r (.tup [.int (low t b).1, .int (low t b).2])->Q (.ref r) H'
theorem scLo:FnScope ["_law_top","_law_bottom","_law_one","_law_other"] ["_law_top","_law_bottom"] (ah la):= .of
theorem wU{f:Addr}{fd:FuncData}(F:Fun K "_law_least" "_law_least" la f fd)(B:Blt mg):FnOk P w K mg base CX0 1 f fd ["_law_top","_law_bottom"] gJ:=by
 refine F.ok scLo (fun vs H Q E h=>?_) (fun g A outer s H vs Q E hr h=>?_)
 . obtain⟨t,b,rfl,_⟩:=h;rfl
 . obtain⟨t,b,rfl,b0,c,k⟩:=h
   refine⟨_,ad (psA 2 scLo.nd (av ij rfl B.ab ik (a0 (pv 0) aa)))
    (ad (psA 3 scLo.nd (pv 1))
    (ad (gQ PassesOwn.never (ax cr (pv 3) a9 (ay _))
     (ai (rD (i:=2) (j:=3) rfl scLo.nd rfl rfl (by decide) rfl rfl (a0 (pv 3) (a0 (am c6 (pv 2) (pv 3)) aa)) rfl)))
    (ai (az (aY (a0 (am cE (pv 0) (pv 2)) (a0 (am cE (pv 1) (pv 2)) aa))))))),?_⟩
   refine⟨_,rfl,t,rfl,_,rfl,?_⟩;have l:(if t < 0 then -t else t)=(t.natAbs:Int):=by split<;>omega
   rw[l];have u:0 < Int.gcd t b:=A3 t (by omega)
   refine jK (fun σ H'=>H'=H/\∃(x y:Nat),σ= [some (.int t),some (.int b),some (.int x),some (.int y)]/\Nat.gcd x y=Int.gcd t b) (fun σ _=>match σ with| [_,_,_,some (.int y)]=>y.natAbs|_=>0)
    ⟨rfl,t.natAbs,b.natAbs,by rw[show((b.natAbs:Nat):Int)=b by omega];rfl,rfl⟩ ?_ ?_
   . rintro σ H' ⟨rfl,x,y,rfl,e⟩;refine⟨_,rfl,_,0,rfl,rfl,_,rfl,?_⟩;by_cases z:(0:Int) < (y:Int)
     . rw[decide_eq_true z];refine iteT ?_;refine⟨_,rfl,_,rfl,_,rfl,x,y,rfl,rfl,z,_,_,rfl,?_⟩;have hm:((x:Int)%(y:Int))=((x%y:Nat):Int):=by simp
       refine⟨⟨rfl,y,x%y,?_,?_⟩,?_⟩
       . show[some (V.int t),some (V.int b),some (V.int (y:Int)),some (V.int ((x:Int)%(y:Int)))]=_;rw[hm]
       . rw[<-e,Nat.gcd_comm x y,Nat.gcd_rec y x,Nat.gcd_comm]
       . show((x:Int)%(y:Int)).natAbs < (y:Int).natAbs;rw[hm];have:=Nat.mod_lt x (show 0 < y by omega)
         omega
     . rw[decide_eq_false z];refine iteF ?_;have d:y=0:=by omega
       subst d;rw[Nat.gcd_zero_right]at e;subst e;refine⟨_,rfl,_,rfl,t,_,rfl,rfl,⟨by omega,c⟩,_,rfl,_,rfl,b,_,rfl,rfl,⟨by omega,c⟩,by show 2<=sizeLine;decide,fun r a=>?_⟩
       exact k r _ a rfl
   . intro σ H' R p o h;obtain⟨v,e1,i,j,e2,n,q,m,h⟩:=h;exact⟨v,e1,i,j,e2,n,q,m,o _ _ h⟩
def eP:Sp:=fun vs H Q _=>∃(v u:V) (p q:Fr) (m n:Nat),vs= [v,u]/\TrAt H v (frT p)/\TrAt H u (frT q)/\Gf m p/\Gf n q/\m+n+1<=8000/\
 ∀(x:V) (H':Hp) (r:Fr),Same H H'->TrAt H' x (frT r)->Sh r->rv r=rv p+rv q->Gf (m+n+1) r->Q x H'
def eO:Sp:=fun vs H Q _=>∃(v u:V) (p q:Fr) (m n:Nat),vs= [v,u]/\TrAt H v (frT p)/\TrAt H u (frT q)/\Gf m p/\Gf n q/\m+n<=8000/\
 ∀(x:V) (H':Hp) (r:Fr),Same H H'->TrAt H' x (frT r)->Sh r->rv r=rv p*rv q->Gf (m+n) r->Q x H'
theorem scLP:FnScope ["_law_one","_law_other"] ["_law_one","_law_other"] (ah lg):= .of
theorem scLT:FnScope ["_law_one","_law_other"] ["_law_one","_law_other"] (ah je):= .of
theorem rV{f:Addr}{fd:FuncData}(F:Fun K "_law_plus" "_law_plus" lg f fd)(zL:Cl P w K mg base 1 "_law_least" ["_law_top","_law_bottom"] gJ):FnOk P w K mg base CX0 2 f fd ["_law_one","_law_other"] eP:=by
 refine F.ok scLP (fun vs H Q E h=>?_) (fun l A outer s H vs Q E hr h=>?_)
 . obtain⟨v,u,p,q,m,n,rfl,_⟩:=h;rfl
 obtain⟨v,u,p,q,m,n,rfl,hv,hu,c,gq,x,k⟩:=h;obtain⟨a,rfl,ha⟩:=bU hv;obtain⟨b,rfl,hb⟩:=bU hu;refine⟨_,ai (az (ak zL hr (a0 (am aS (am aR (ao aw (pv 0) a9 fun _ _=>rfl) (ao aw (pv 1) a9 fun _ _=>rfl)) (am aR (ao aw (pv 1) a9 fun _ _=>rfl) (ao aw (pv 0) a9 fun _ _=>rfl))) (a0 (am aR (ao aw (pv 0) a9 fun _ _=>rfl) (ao aw (pv 1) a9 fun _ _=>rfl)) aa)))),?_⟩;have t:Big p.1:=c.top.big (by omega)
 have p2:Big p.2:=c.bot.big (by omega)
 have i:Big q.1:=gq.top.big (by omega)
 have g:Big q.2:=gq.bot.big (by omega)
 refine⟨_,rfl,a,_,0, .int p.1,rfl,rfl,SqT.of ha,rfl,_,rfl,b,_,1, .int q.2,rfl,rfl,SqT.of hb,rfl,_,_,rfl,rfl,⟨t,g⟩,_,rfl,b,_,0, .int q.1,rfl,rfl,SqT.of hb,rfl,_,rfl,a,_,1, .int p.2,rfl,rfl,SqT.of ha,rfl,_,_,rfl,rfl,⟨i,p2⟩,_,_,rfl,rfl,_,rfl,a,_,1, .int p.2,rfl,rfl,SqT.of ha,rfl,_,rfl,b,_,1, .int q.2,rfl,rfl,SqT.of hb,rfl,_,_,rfl,rfl,⟨p2,g⟩,?_⟩;have d:0 < p.2*q.2:=Ax c.pos gq.pos
 have o:Lt2 (m+n+1) (p.1*q.2+q.1*p.2):=by
  refine Lt2.add (c.top.mul gq.bot) ?_;rw[Nat.add_comm];exact gq.top.mul c.bot
 have e:Lt2 (m+n+1) (p.2*q.2):=(c.bot.mul gq.bot).mono (by omega)
 refine⟨_,_,rfl,d,cJ (e.big x) (by omega),fun r H1 j e1=>?_⟩
 subst e1;refine k (.ref r) _ _ (ae j) (aP a8) (e5 d) ?_ (jx d o e);rw[gP d];have n1:=ne0 c.pos;have n2:=ne0 gq.pos;unfold rv;simp only[Rat.intCast_mul,Rat.intCast_add];grind
theorem oB{f:Addr}{fd:FuncData}(F:Fun K "_law_times" "_law_times" je f fd)(zL:Cl P w K mg base 1 "_law_least" ["_law_top","_law_bottom"] gJ):FnOk P w K mg base CX0 2 f fd ["_law_one","_law_other"] eO:=by
 refine F.ok scLT (fun vs H Q E h=>?_) (fun j A outer s H vs Q E hr h=>?_)
 . obtain⟨v,u,p,q,m,n,rfl,_⟩:=h;rfl
 obtain⟨v,u,p,q,m,n,rfl,hv,hu,c,gq,t,k⟩:=h;obtain⟨a,rfl,ha⟩:=bU hv;obtain⟨b,rfl,hb⟩:=bU hu;refine⟨_,ai (az (ak zL hr (a0 (am aR (ao aw (pv 0) a9 fun _ _=>rfl) (ao aw (pv 1) a9 fun _ _=>rfl)) (a0 (am aR (ao aw (pv 0) a9 fun _ _=>rfl) (ao aw (pv 1) a9 fun _ _=>rfl)) aa)))),?_⟩;have o:Big p.1:=c.top.big (by omega)
 have p2:Big p.2:=c.bot.big (by omega)
 have g:Big q.1:=gq.top.big (by omega)
 have x:Big q.2:=gq.bot.big (by omega)
 refine⟨_,rfl,a,_,0, .int p.1,rfl,rfl,SqT.of ha,rfl,_,rfl,b,_,0, .int q.1,rfl,rfl,SqT.of hb,rfl,_,_,rfl,rfl,⟨o,g⟩,_,rfl,a,_,1, .int p.2,rfl,rfl,SqT.of ha,rfl,_,rfl,b,_,1, .int q.2,rfl,rfl,SqT.of hb,rfl,_,_,rfl,rfl,⟨p2,x⟩,?_⟩;have d:0 < p.2*q.2:=Ax c.pos gq.pos;have l:=c.top.mul gq.top;have e:=c.bot.mul gq.bot;refine⟨_,_,rfl,d,cJ (e.big t) (by omega),fun r H1 i e1=>?_⟩
 subst e1;refine k (.ref r) _ _ (ae i) (aP a8) (e5 d) ?_ (jx d l e);rw[gP d];have n1:=ne0 c.pos;have n2:=ne0 gq.pos;unfold rv;simp only[Rat.intCast_mul];grind
end
end K39
namespace L2
open PySem Tre
noncomputable def dm(f:Expr->Option Tr):List Expr->Option (List Tr)
 | []=>some []
 |e::es=>match f e,dm f es with
  |some t,some ts=>some (t::ts)
  |_,_=>none
noncomputable def litE:Nat->Expr->Option Tr
 |0,_=>none
 |n+1,e=>match e with
  | .Constant (.str x) _ _=>some (.str x)
  | .Constant (.int i) _ _=>some (.int i)
  | .UnaryOp .USub (.Constant (.int i) _ _) _=>some (.int (-i))
  | .Tuple es _ _=>if es.length<=100 then(dm (litE n) es).map .tup else none
  |_=>none
noncomputable def litL(n:Nat):Expr->Option (List Tr)
 | .List es _=>if es.length<=100 then dm (litE n) es else none
 |_=>none
def tLit(t:Tr):TE:=fun _ H Q=>∀v H',Same H H'->TrAt H' v t->Q v H'
def vA(ts:List Tr):TA:=fun _ H Q=>∀vs H',Same H H'->TrsAt H' vs ts->Q vs H'
def yg(ts:List Tr):TE:=fun _ H Q=>∀r vs H',Same H H'->H r=none->H' r=some (.lst vs)->TrsAt H' vs ts->Q (.ref r) H'
section
variable{X:Cx}
theorem PE.imp{e:Expr}{t u:TE}(h:PE X e t)(k:∀σ H Q,u σ H Q->t σ H Q):PE X e u:=fun pins s σ H Q I q=>h pins s σ H Q I (k σ H Q q)
theorem PA.imp{es:List Expr}{t u:TA}(h:PA X es t)(k:∀σ H Q,u σ H Q->t σ H Q):PA X es u:=fun pos pins s σ H Q I q=>h pos pins s σ H Q I (k σ H Q q)
theorem mK{H:Hp}{p:Addr}{o:HO}(h:H p=none):Same H (upd H p o):=fun b u e=>by
 rw[ag (aE e h)];exact e
theorem Same.none{H H':Hp}{p:Addr}(s:Same H H')(h:H' p=none):H p=none:=by
 cases e:H p with
 |none=>rfl
 |some o=>rw[s p o e]at h;cases h
theorem hZ:∀ {n:Nat} {es:List Expr} {ts:List Tr},dm (litE n) es=some ts->ts.length=es.length
 |n,[],ts,h=>by
  rw[dm]at h;cases h;rfl
 |n,e::es,ts,h=>by
  rw[dm]at h;split at h
  . rename_i t us h1 h2;cases h;rw[zq,zq,hZ h2]
  . cases h
theorem eU:∀n,∀e t,litE n e=some t->PE X e (tLit t)/\∀es,starEach (e::es) X.env=(false,eval e X.env)::starEach es X.env:=by
 intro n
 induction n with
 |zero=>
  intro e t h;rw[litE]at h;cases h
 |succ n d=>
  have b:∀es ts,dm (litE n) es=some ts->PA X es (vA ts):=by
   intro es
   induction es with
   |nil=>
    intro ts h;rw[dm]at h;cases h;exact PA.imp aa fun σ H Q q=>q [] H (Same.refl H) .nil
   |cons e es c=>
    intro ts h;rw[dm]at h;split at h
    . rename_i t us h1 h2;cases h;obtain⟨f,g⟩:=d e t h1;refine PA.imp (a0 f (c us h2) (g es)) fun σ H Q q=>?_;intro v H1 s1 hv ws H2 a hw;exact q (v::ws) H2 (s1.trans a) (.cons (hv.mono (Kd.of_same a)) hw)
    . cases h
  intro e t h;unfold litE at h;split at h
  . cases h;exact⟨PE.imp cM fun σ H Q q=>q _ H (Same.refl H) xS,fun es=>rfl⟩
  . cases h;exact⟨PE.imp a9 fun σ H Q q=>q _ H (Same.refl H) (by unfold TrAt;rfl),fun es=>rfl⟩
  . cases h;exact⟨PE.imp (cg bu a9) fun σ H Q q=>⟨_,rfl,q _ H (Same.refl H) (by unfold TrAt;rfl)⟩,fun es=>rfl⟩
  . rename_i es k pos;split at h
    . rename_i hl;obtain⟨ts,h1,h2⟩:=zf.mp h;cases h2;refine⟨PE.imp (aY (b es ts h1)) fun σ H Q q=>?_,fun es=>rfl⟩;intro vs H1 s1 hv;have l1:=hv.len;have l2:=hZ h1;refine⟨by have:(100:Nat)<=sizeLine:=(by decide +kernel);omega,fun p np=>?_⟩
      have a:=mK (o:= .tup vs) np;exact q (.ref p) _ (s1.trans a) (jI a8 (hv.mono (Kd.of_same a)))
    . cases h
  . cases h
theorem mR(n:Nat):∀ {es:List Expr} {ts:List Tr},dm (litE n) es=some ts->PA X es (vA ts)
 | [],ts,h=>by
  rw[dm]at h;cases h;exact PA.imp aa fun σ H Q q=>q [] H (Same.refl H) .nil
 |e::es,ts,h=>by
  rw[dm]at h;split at h
  . rename_i t us h1 h2;cases h;obtain⟨c,b⟩:=eU (X:=X) n e t h1;refine PA.imp (a0 c (mR n h2) (b es)) fun σ H Q q=>?_;intro v H1 s1 hv ws H2 a hw;exact q (v::ws) H2 (s1.trans a) (.cons (hv.mono (Kd.of_same a)) hw)
  . cases h
theorem ww(n:Nat){e:Expr}{t:Tr}(h:litE n e=some t):PE X e (tLit t):=(eU n e t h).1
theorem uC(n:Nat){e:Expr}{ts:List Tr}(h:litL n e=some ts):PE X e (yg ts):=by
 unfold litL at h;split at h
 . rename_i es pos;split at h
   . rename_i hl;refine PE.imp (c5 (mR n h)) fun σ H Q q=>?_;intro vs H1 s1 hv;have l1:=hv.len;have l2:=hZ h;refine⟨by have:(100:Nat)<=sizeLine:=(by decide +kernel);omega,fun p np=>?_⟩
     have a:=mK (o:= .lst vs) np;exact q p vs _ (s1.trans a) (s1.none np) a8 (hv.mono (Kd.of_same a))
   . cases h
 . cases h
end
open PySem Tre
noncomputable def asgV:Stmt->Expr
 | .Assign _ v _=>v
 |_=> .Constant .none 0 ⟨0,0,0,0⟩
noncomputable def asgW(s:Stmt)(L:Expr):Stmt:=match s with
 | .Assign ts _ p=> .Assign ts L p
 |s=>s
theorem or{n:Nat}{L:Expr}{ts:List Tr}(h:litL n L=some ts){tg:Option Expr}{line:Nat}{env:Env}:swapsWith L tg line env=pure false:=by
 unfold litL at h;split at h
 . rfl
 . cases h
noncomputable def expV:Stmt->Expr
 | .Expr (.Call _ (v::_) _ _) _=>v
 |_=> .Constant .none 0 ⟨0,0,0,0⟩
noncomputable def expW(s:Stmt)(L:Expr):Stmt:=match s with
 | .Expr (.Call f (_::r) k p) q=> .Expr (.Call f (L::r) k p) q
 |s=>s
end L2
namespace K39
open PySem L2 Mth Tre Wd Su
abbrev tN(x:String):Tr:= .tup [.str (Str.ofString "name"), .str (Str.ofString x)]
abbrev tC'(f:String)(ts:List Tr):Tr:= .tup [.str (Str.ofString "call"), .str (Str.ofString f), .tup ts]
def T4:List Tr:= [tN "x",tN "y",tC' "f" [tN "x"],tN "zz"]
def t5:Tr:=tC' "g" [tC' "f" [tN "y"],tN "x"]
def T5:List Tr:=T4++ [t5]
theorem ty_n(x:String):Ty .tm (tN x):= .nm _
theorem ty_c(f:String){ts:List Tr}(h:ts.length<=3)(ht:∀t∈ts,Ty .tm t):Ty .tm (tC' f ts):= .ap _ _ h ht
theorem iW:∀t∈T5,Ty .tm t/\t.depth<=7:=by
 intro t m;simp only[T5,T4,t5,zX,AD,zc,zy,or_false]at m;rcases m with rfl|rfl|rfl|rfl|rfl
 . exact⟨ty_n _,by simp[Tr.depth,Trs.depth]⟩
 . exact⟨ty_n _,by simp[Tr.depth,Trs.depth]⟩
 . exact⟨ty_c _ (by decide) (by simp only[zc,zy,or_false];rintro t rfl;exact ty_n _),by simp[Tr.depth,Trs.depth]⟩
 . exact⟨ty_n _,by simp[Tr.depth,Trs.depth]⟩
 . refine⟨ty_c _ (by decide) ?_,by simp[Tr.depth,Trs.depth]⟩
   simp only[zc,zy,or_false];rintro t (rfl|rfl)
   . exact ty_c _ (by decide) (by simp only[zc,zy,or_false];rintro t rfl;exact ty_n _)
   . exact ty_n _
theorem T5_nd:T5.Nodup:=by
 have cl:∀ {x y:String},(Str.ofString x).cps.toList≠(Str.ofString y).cps.toList->Str.ofString x≠Str.ofString y:=fun h e=>h (by rw[e])
 have h1:Str.ofString "x"≠Str.ofString "y":=cl (by decide +kernel)
 have h2:Str.ofString "x"≠Str.ofString "zz":=cl (by decide +kernel)
 have h3:Str.ofString "y"≠Str.ofString "zz":=cl (by decide +kernel)
 have a:Str.ofString "f"≠Str.ofString "g":=cl (by decide +kernel)
 simp[T5,T4,t5,h1,h2,h3,a]
noncomputable def mW(ns:List Int):Nat:=if eZ ns 3 4=0 then 21 else 3
theorem vG(ns:List Int):mW ns<=21/\3<=mW ns:=by unfold mW;split<;>omega
theorem tE(vs:List V)(j:Nat):cutV vs none (some (j:Int))=vs.take j:=by
 unfold cutV;rw[HT.sIx_nat,HT.sIx_none,List.drop_zero,Nat.sub_zero,List.take_eq_take_iff];omega
theorem TrsAt.take{H:Hp}:∀ {vs:List V} {ts:List Tr} (n:Nat),TrsAt H vs ts->TrsAt H (vs.take n) (ts.take n)
 |_,_,0,h=>by
  rw[Ak,Ak];exact .nil
 |vs,[],n+1,h=>by
  unfold Tre.TrsAt at h;subst h;exact .nil
 |vs,t::ts,n+1,h=>by
  obtain⟨v,r,rfl,h1,h2⟩:=h.inv;exact .cons h1 (TrsAt.take n h2)
section
variable{P:Program}{w:World}{K:PySem.W.Frag}{mg:Str->Option Value}{base:Heap}{T0:Addr}
def ja(K:PySem.W.Frag):Sp:=fun vs H Q _=>∃(a:Addr) (ns:List Int),vs= [.ref a]/\SqL K H a (ns.map V.int)/\ns.length<=63/\
 ∀(l:Addr) (ws:List V) (n:Nat) (H':Hp),Same H H'->H l=none->H' l=some (.lst ws)->TrsAt H' ws (T5.take n)->1<=n->n<=5->Q (.ref l) H'
theorem scTs:FnScope ["_law_script","_law_some"] ["_law_script"] (ah fo):= .of
noncomputable abbrev bdT_(i:Nat):Stmt:=(aM fo).getD i (.Pass ⟨0,0,0,0⟩)
theorem xY:aM fo=asgW (bdT_ 0) (asgV (bdT_ 0))::expW (bdT_ 1) (expV (bdT_ 1))::(aM fo).drop 2:=rfl
theorem ya:litL 9 (asgV (bdT_ 0))=some T4:=rfl
theorem xZ:litE 9 (expV (bdT_ 1))=some t5:=rfl
theorem rS{f:Addr}{fd:FuncData}(F:Fun K "_law_terms" "_law_terms" fo f fd)(zD:Cl P w K mg base 1 "_law_draw" ["_law_script","_law_k","_law_many"] (dY K)):FnOk P w K mg base CX0 2 f fd ["_law_script"] (ja K):=by
 refine F.ok scTs (fun vs H Q E h=>?_) (fun t A outer s H vs Q E hr h=>?_)
 . obtain⟨a,ns,rfl,_⟩:=h;rfl
 obtain⟨a,ns,rfl,u,g,k⟩:=h;have m:=xY;have e1:=ya;have e2:=xZ;rw[m];clear m;generalize asgV (bdT_ 0)=L1 at e1 ⊢;generalize expV (bdT_ 1)=x at e2 ⊢
 refine⟨_,ad (psA 1 scTs.nd (uC 9 e1) rfl rfl (or e1))
  (ad (cA (gW PySem.F.plainAttrs_list PySem.F.slot_list_append PySem.F.type_list_append cB (pv 1) (a0 (ww 9 e2) aa ((eU 9 _ _ e2).2 _)) rfl (by rw[(eU 9 _ _ e2).2 _];rfl) rfl ((eU 9 _ _ e2).2 _)))
  (ai (az (jW mG (pv 1) mO (mN (am aS a9 (ak zD hr (a0 (pv 0) (a0 a9 (a0 a9 aa)))))))))),?_⟩
 have j:(20000:Nat)<=sizeLine:=by decide +kernel
 intro l ws H1 s1 nl hl i;refine aj ?_
 try dsimp only
 refine⟨_,rfl, .inl ⟨rfl,_,SqL.of hl⟩,?_⟩;intro v H2 d hv;have y:=i.len;refine⟨l,ws,v,rfl,rfl,d _ _ hl,by rw[y];show 4 < sizeLine;omega,?_⟩
 have kd:=Kd.upd (ys:=ws++ [v]) (d _ _ hl);have b:=a8 (H:=H2) (a:=l) (o:= .lst (ws++ [v]));have e:Same H (upd H2 l (.lst (ws++ [v]))):=aH nl (s1.trans d);have c:TrsAt (upd H2 l (.lst (ws++ [v]))) (ws++ [v]) T5:=TrsAt.app (.cons (hv.mono kd) .nil) ((i.mono (Kd.of_same d)).mono kd);generalize upd H2 l (.lst (ws++ [v]))=H3 at b e c ⊢;refine cC ?_
 try dsimp only
 refine⟨_,rfl,_,rfl,a,ns,1,5,rfl,SqL.same e u,g,by decide,by decide,by decide,fun r r0 z _=>?_⟩
 refine⟨1,r,rfl,rfl,_,rfl,l,ws++ [v],rfl,SqL.of b,fun p np=>?_⟩;have sp:=ae (o:= .lst (cutV (ws++ [v]) none (some (1+r)))) np;obtain⟨n,rfl⟩:∃n:Nat,r=(n:Int):=⟨r.toNat,by omega⟩
 have q:cutV (ws++ [v]) none (some (1+(n:Int)))=(ws++ [v]).take (n+1):=by
  rw[show 1+(n:Int)=((n+1:Nat):Int)by omega]
  exact tE _ _
 refine k p _ (n+1) _ (e.trans sp) (e.free np) a8 ?_ (by omega) (by omega)
 rw[q]at sp ⊢;exact TrsAt.take _ (c.mono (Kd.of_same sp))
def eN(K:PySem.W.Frag):Sp:=fun vs H Q _=>∃(a:Addr) (ns:List Int) (kk:Int),vs= [.ref a, .int kk]/\SqL K H a (ns.map V.int)/\ns.length<=63/\0<=kk/\kk<=90000/\
 ∀(r:Addr) (fr:Fr) (H':Hp),Same H H'->H' r=some (.tup [.int fr.1, .int fr.2])->Sh fr->Gf (mW ns) fr->Q (.ref r) H'
theorem scSh:FnScope ["_law_script","_law_base","_law_top","_law_bottom"] ["_law_script","_law_base"] (ah l9):= .of
theorem hE{e:Nat}{x:Int}{b:Nat}(h:x.natAbs<=b)(hb:b < 2^e):Lt2 e x:=zg h hb
theorem rT{f:Addr}{fd:FuncData}(F:Fun K "_law_share" "_law_share" l9 f fd)(B:Blt mg)(zD:Cl P w K mg base 1 "_law_draw" ["_law_script","_law_k","_law_many"] (dY K))(zL:Cl P w K mg base 1 "_law_least" ["_law_top","_law_bottom"] gJ):FnOk P w K mg base CX0 2 f fd ["_law_script","_law_base"] (eN K):=by
 refine F.ok scSh (fun vs H Q E h=>?_) (fun v A outer s H vs Q E hr h=>?_)
 . refine hZq fun q_ e_=>?_;obtain⟨a,ns,kk,rfl,_⟩:=h;subst e_;rfl
 refine hZq fun q_ e_=>?_;obtain⟨a,ns,kk,rfl,d,c,k0,k9,k⟩:=h;subst e_
 refine⟨_,ad (psA 2 scSh.nd (am fA (ak zD hr (a0 (pv 0) (a0 (pv 1) (a0 a9 aa)))) a9))
  (ad (psA 3 scSh.nd (am aS a9 (ak zD hr (a0 (pv 0) (a0 (am aS (pv 1) a9) (a0 a9 aa))))))
  (ad (bG (PW.pt (dc (ax ci (ak zD hr (a0 (pv 0) (a0 a9 (a0 a9 aa)))) a9 (ay _)) (dc (ax ci (ak zD hr (a0 (pv 0) (a0 a9 (a0 a9 aa)))) a9 (ay _)) (cZ (ax cr (av ar rfl B.le PySem.boot_len (a0 (pv 0) aa)) a9 (ay _))))))
   (ad (psA 2 scSh.nd (am aR (am c6 (ao aA (pv 0) (am c6 (pv 1) (av ar rfl B.le PySem.boot_len (a0 (pv 0) aa))) fun _ _=>rfl) (am rO a9 a9)) (am fA a9 (am cN a9 (ak zD hr (a0 (pv 0) (a0 (pv 1) (a0 a9 aa))))))))
   (ai (psA 3 scSh.nd (am aS a9 (am c6 (ao aA (pv 0) (am c6 (am aS (pv 1) a9) (av ar rfl B.le PySem.boot_len (a0 (pv 0) aa))) fun _ _=>rfl) (am rO a9 a9)))))) aO)
  (ai (az (ak zL hr (a0 (pv 2) (a0 (pv 3) aa))))))),?_⟩
 have fin:∀(t b:Int),0 < b->Lt2 (mW ns) t->Lt2 (mW ns) b->∀(r:Addr) (H':Hp),H r=none->H'=upd H r (.tup [.int (low t b).1, .int (low t b).2])->Q (.ref r) H':=fun t b b0 l1 l2 r H' q e=>by
  subst e;exact k r (low t b) _ (ae q) a8 (e5 b0) (jx b0 l1 l2)
 have bg:∀ {b:Int},Lt2 (mW ns) b->Big b:=fun h=>h.big (by have:=(vG ns).1;omega)
 have l:∀ {x:Int},x.natAbs<=4->Lt2 (mW ns) x:=fun h=>(hE h (show 4 < 2^3 by decide)).mono (vG ns).2
 refine⟨_,rfl,_,rfl,a,ns,kk,9,rfl,d,c,k0,by omega,by decide,fun r1 aC af _=>?_⟩
 refine⟨r1,4,rfl,rfl,?_⟩;refine⟨_,rfl,_,rfl,kk,1,rfl,rfl,a,ns,kk+1,4,rfl,d,c,by omega,by omega,by decide,fun r2 ac au _=>?_⟩
 refine⟨1,r2,rfl,rfl,?_⟩;refine aj ?_
 try dsimp only
 refine bP (fun σ' H'=>H'=H/\∃t b:Int,σ'= [some (.ref a),some (.int kk),some (.int t),some (.int b)]/\0 < b/\Lt2 (mW ns) t/\Lt2 (mW ns) b) ?_ fun nx j=>?_
 . intro σ' H' z_;refine hZq fun q_ e_=>?_;obtain⟨rfl,t,b,rfl,b0,l1,l2⟩:=z_;subst e_;exact⟨_,rfl,_,rfl,t,b,rfl,b0,cJ (bg l2) (by omega),fin t b b0 l1 l2⟩
 have no:nx [some (.ref a),some (.int kk),some (.int (r1 - 4)),some (.int (1+r2))] H:=j _ _ ⟨rfl,r1 - 4,1+r2,rfl,by omega,l (by omega),l (by omega)⟩
 refine⟨_,rfl,a,ns,2,2,rfl,d,c,by decide,by decide,by decide,fun r3 _ _ _=>?_⟩
 refine⟨rfl,_,rfl,?_⟩;refine ite2 (fun _=>?_) (fun _=>iteF no);refine⟨_,rfl,a,ns,3,4,rfl,d,c,by decide,by decide,by decide,fun r4 _ _ e4=>?_⟩
 refine⟨rfl,_,rfl,?_⟩;refine ite2 (fun p=>?_) (fun _=>iteF no);refine⟨_,rfl,a,_,rfl, .inl d,_,0,rfl,rfl,_,rfl,?_⟩;refine ite2 (fun y5=>?_) (fun _=>no)
 have d3:eZ ns 3 4=0:=by
  have:=V.int.inj (of_decide_eq_true p);rw[<-e4];exact this
 have n:mW ns=21:=by unfold mW;rw[if_pos d3]
 have m:(0:Int) < (ns.length:Int):=by
  have:=of_decide_eq_true y5
  rwa [yY]at this
 refine hZq fun q_ e_=>?_;obtain⟨z,hz,_⟩:=jJ (ns:=ns) (i:=kk%(ns.length:Int)) (Av _ (by omega)) (Ar _ m)
 obtain⟨y,hy,_⟩:=jJ (ns:=ns) (i:=(kk+1)%(ns.length:Int)) (Av _ (by omega)) (Ar _ m)
 subst e_;have lm:((ns.map V.int).length:Int)=(ns.length:Int):=by rw[yY]
 refine⟨_,rfl,_,rfl,_,rfl,a,_,rfl, .inl d,kk,_,rfl,rfl,(by rw[yY];omega),a,_,kk%(ns.length:Int), .int z,rfl,(by rw[yY]),d,hz,10,6,rfl,rfl,⟨by decide,by decide,by decide⟩,z,1000000,rfl,rfl,(by show(0:Int) < 1000000;decide),?_⟩
 refine⟨_,rfl,_,rfl,a,ns,kk,2,rfl,d,c,k0,by omega,by decide,fun g o u _=>?_⟩
 have z1:=Av z (show(1000000:Int)≠0 by decide)
 have z2:=Ar z (show(0:Int) < 1000000 by decide)
 have y1:=Av y (show(100000:Int)≠0 by decide)
 have y2:=Ar y (show(0:Int) < 100000 by decide)
 refine⟨2,g,rfl,rfl, .inl ⟨by decide,by decide⟩,1,2*g,rfl,rfl,z%1000000,1 - 2*g,rfl,rfl,⟨zg (show(z%1000000).natAbs<=1000000 by omega) (by decide +kernel),?_⟩,?_⟩
 . exact zg (show(1 - 2*g).natAbs<=1 by omega) (by decide +kernel)
 refine⟨_,rfl,_,rfl,kk,1,rfl,rfl,_,rfl,a,_,rfl, .inl d,kk+1,_,rfl,rfl,(by rw[yY];omega),a,_,(kk+1)%(ns.length:Int), .int y,rfl,(by rw[yY]),d,hy,10,5,rfl,rfl,⟨by decide,by decide,by decide⟩,y,100000,rfl,rfl,(by show(0:Int) < 100000;decide),1,y%100000,rfl,rfl,?_⟩
 refine j _ _ ⟨rfl,z%1000000*(1 - 2*g),1+y%100000,rfl,by omega,?_,?_⟩
 . rw[n];refine hE (b:=1000000) ?_ (by decide)
   have:g=0\/g=1:=by omega
   rcases this with rfl|rfl<;>omega
 . rw[n];exact hE (b:=1000000) (by omega) (by decide)
theorem Gf.one{e:Nat}(h:1<=e):Gf e zero:=⟨by decide,zt (show(0:Nat) < 2^1 by decide) (Am (by decide) h),zt (show(1:Nat) < 2^1 by decide) (Am (by decide) h)⟩
theorem xo{f g:Fr}(hf:Sh f)(hg:0 < g.2)(e:rv f=rv g):f.1.natAbs<=g.1.natAbs/\f.2.natAbs<=g.2.natAbs:=by
 obtain⟨d,i⟩:=hf;have n1:=bp d;have n2:=bp hg
 have e2:f.1*g.2=g.1*f.2:=by
  have:((f.1*g.2:Int):Rat)=((g.1*f.2:Int):Rat):=by
   unfold rv at e;rw[Rat.div_def,Rat.div_def]at e;rw[Rat.intCast_mul,Rat.intCast_mul];grind
  exact_mod_cast this
 have h:Nat.Coprime f.2.natAbs f.1.natAbs:=by
  unfold Nat.Coprime;rw[Nat.gcd_comm];exact i
 have a:=congrArg Int.natAbs e2;rw[zM,zM]at a;have c:f.2.natAbs∣g.2.natAbs:=h.dvd_of_dvd_mul_left ⟨g.1.natAbs,by rw[a,AL]⟩
 obtain⟨k,hk⟩:=c;have b:0 < f.2.natAbs:=by omega
 have j:f.1.natAbs*k=g.1.natAbs:=by
  rw[hk,<-Nat.mul_assoc,AL f.1.natAbs,Nat.mul_assoc,AL g.1.natAbs]at a;exact Nat.eq_of_mul_eq_mul_left b a
 have k0:0 < k:=by
  rcases Nat.eq_zero_or_pos k with z|z
  . rw[z,Nat.mul_zero]at hk;omega
  . exact z
 exact⟨by rw[<-j];exact Nat.le_mul_of_pos_right _ k0,by rw[hk];exact Nat.le_mul_of_pos_right _ k0⟩
theorem Gf.low{b:Nat}{f g:Fr}(hf:Sh f)(hg:Gf b g)(e:rv f=rv g):Gf b f:=by
 obtain⟨a,c⟩:=xo hf hg.pos e;exact⟨hf.1,zg a hg.top,zg c hg.bot⟩
def mj(P:Program)(w:World)(K:PySem.W.Frag):Sp:=fun vs H Q _=>∃(u:V) (d:Addr) (us:List Tr) (G:Tr->Fr) (ps:List Pq) (e m b:Nat),vs= [u, .ref d]/\TrAt H u (sumT ps)/\Dj.DAt P w K H d us G/\(∀p∈ps,Gq e p)/\(∀t∈us,Sh (G t)/\Gf m (G t))/\1<=m/\(∀q f,q<=ps.length->Sh f->rv f=lin (gw us G) (ps.take q)->Gf b f)/\1<=b/\b+(e+m)+1<=8000/\
 ∀(r:Addr) (f:Fr) (H':Hp),Same H H'->H' r=some (.tup [.int f.1, .int f.2])->Sh f->rv f=lin (gw us G) ps->Gf b f->Q (.ref r) H'
theorem scVa:FnScope ["_law_whole","_law_numbers_here","_law_total","_law_term","_law_share_here"] ["_law_whole","_law_numbers_here"] (ah jd):= .of
theorem wG{f:Addr}{fd:FuncData}(F:Fun K "_law_value" "_law_value" jd f fd)(zT:Cl P w K mg base 2 "_law_times" ["_law_one","_law_other"] eO)(zP:Cl P w K mg base 2 "_law_plus" ["_law_one","_law_other"] eP):FnOk P w K mg base CX0 3 f fd ["_law_whole","_law_numbers_here"] (mj P w K):=by
 refine F.okb scVa fun vs H Q E h=>?_;refine hZq fun q_ e_=>?_;obtain⟨u,d,us,G,ps,e,m,b,rfl,hu,hD,bF,hG,m1,hb,b1,h8,k⟩:=h;subst e_;refine⟨rfl,fun b6 A outer s hr=>?_⟩;have bw:=hr.units;have a4:Room 2 _:=hr;have a2:=zg (Ac (show 30<=64 by decide) _) bw
 have nd:=scVa.nd
 refine⟨_,ad (psA 2 nd (aY (a0 a9 (a0 a9 aa))))
  (ad (bX PassesOwn.never rfl (dz (pv 0)) (bh rfl (aq (pgA 3 nd) (aq (pgA 4 nd) aV)))
   (ai (psA 2 nd (ak zP a4 (a0 (pv 2) (a0 (ak zT a4 (a0 (pv 4) (a0 (Dj.pe_getJ (P:=P) (w:=w) (K:=K) rfl rfl rfl a2 (pv 1) (pv 3) (aY (a0 a9 (a0 a9 aa))) ⟨rfl,rfl,rfl,rfl⟩) aa))) aa))))))
  (ai (az (pv 2)))),?_⟩
 refine hZq fun q_ e_=>?_;obtain⟨au,ys,rfl,aC,a6⟩:=at_t hu;subst e_;have yl:=a6.len;rw[yY]at yl;refine⟨two,fun z0 bT=>?_⟩;have s0:=ae (o:= .tup [.int 0, .int 1]) bT;have a1:=a8 (H:=H) (a:=z0) (o:= .tup [.int 0, .int 1]);generalize upd H z0 (.tup [.int 0, .int 1])=H1 at s0 a1 ⊢;refine aj ?_
 try dsimp only
 refine⟨_,rfl,au,rfl,⟨_,SqT.of (s0 _ _ aC)⟩,?_⟩
 refine jy (xs:=ys) (fun q σ H'=>Same H H'/\∃(rt:Addr) (tt:Fr) (v3 v4:Option V),σ= [some (.ref au),some (.ref d),some (.ref rt),v3,v4]/\H' rt=some (.tup [.int tt.1, .int tt.2])/\Sh tt/\Gf b tt/\rv tt=lin (gw us G) (ps.take q))
  ⟨s0,z0,zero,none,none,rfl,a1,eQ,Gf.one b1,by rw[Ak];exact cy⟩ (fun i σ H' _ p=>SqT.of (p.1 _ _ aC)) ?_ ?_
 . intro q y σ H3 ey z_;refine hZq fun q_ e_=>?_;obtain⟨t,rt,tt,v3,v4,rfl,r,j,n,c⟩:=z_;obtain⟨t',af,bx⟩:=a6.get' ey;rw[z7]at af;obtain⟨⟨tm,fr⟩,eq,rfl⟩:=zf.mp af;have gq:=bF _ (za eq);have ql:q < ps.length:=(zb.mp eq).1;have ty:=gq.ty;have dp:=gq.dep;have ac:=gq.gf;dsimp only at ty dp ac;obtain⟨T',x1,y1,rfl,bi,x,bg⟩:=bL bx;obtain⟨rf,rfl,bI⟩:=bU bg;obtain⟨bt,rfl⟩:=Dj.tm_ref ty x;subst e_;refine⟨T',_,rfl,SqT.of (t _ _ bi),rfl,_,_,rfl,_,_,rfl,rfl,?_⟩;refine hZq fun q_ e_=>?_;obtain⟨kvs,l,_,bR,a3⟩:=(hD.same t).val ty;subst e_;refine⟨_,rfl,_,rfl,_,rfl,d,kvs,rfl,l,_,rfl,two,fun z nz=>?_⟩;have sz:=ae (o:= .tup [.int 0, .int 1]) nz;refine⟨bt,Dj.ktL tm,rfl,l.kd (Kd.of_same sz) (sz _ _ l.at_),Dj.key_tm ty dp (x.mono (Kd.of_same (t.trans sz))),?_⟩;have bB:=a8 (H:=H3) (a:=z) (o:= .tup [.int 0, .int 1]);refine hZq fun q_ e_=>?_
   obtain⟨vv,gv,ev,hv,a7,bC⟩:∃(vv:V) (gv:Fr),(Dj.valJ kvs (Dj.ktL tm)).getD (.ref z)=vv/\TrAt (upd H3 z (.tup [.int 0, .int 1])) vv (frT gv)/\Gf m gv/\rv gv=gw us G tm:=by
    by_cases mt:tm∈us
    . obtain⟨v,e1,e2⟩:=bR mt;exact⟨v,G tm,by rw[e1];rfl,e2.mono (Kd.of_same sz),(hG tm mt).2,by unfold gw;rw[if_pos mt]⟩
    . exact⟨.ref z,zero,by rw[a3 mt];rfl,aP bB,Gf.one m1,by unfold gw;rw[if_neg mt];exact cy⟩
   subst e_;rw[ev];have s4:=t.trans sz;have g:=sz _ _ r;generalize upd H3 z (.tup [.int 0, .int 1])=H4 at s4 hv g ⊢;refine⟨.ref rf,vv,fr,gv,e,m,rfl,aP (s4 _ _ bI),hv,ac,a7,by omega,fun z1 H5 f1 s5 bj bY e1 g1=>?_⟩
   refine⟨.ref rt,z1,tt,f1,b,e+m,rfl,aP (s5 _ _ g),bj,n,g1,by omega,fun z2 H6 f2 s6 bb aT e2 g2=>?_⟩
   obtain⟨r2,rfl,a5⟩:=bU bb;refine aj ?_
   have ef:rv f2=lin (gw us G) (ps.take (q+1)):=by
    rw[e2,e1,c,aD eq,jq,bC];simp only[lin];grind
   exact⟨s4.trans (s5.trans s6),r2,f2,_,_,rfl,a5,aT,hb _ _ (by omega) aT ef,ef⟩
 . intro σ H3 z_;refine hZq fun q_ e_=>?_;obtain⟨t,rt,tt,v3,v4,rfl,r,j,n,c⟩:=z_;subst e_;rw[yl,zx]at c;exact⟨_,rfl,k rt tt H3 t r j c n⟩
theorem vP{us:List Tr}{G:Tr->Fr}{e m:Nat}(m1:1<=m)(hG:∀t∈us,Sh (G t)/\Gf m (G t)):∀ {ps:List Pq},(∀p∈ps,Gq e p)->∃g:Fr,rv g=lin (gw us G) ps/\Gf (1+ps.length*(e+m+1)) g
 | [],_=>⟨zero,cy,Gf.one (by omega)⟩
 |p::r,h=>by
  obtain⟨g,e1,d⟩:=vP m1 hG (ps:=r) fun q m=>h q (z5 _ m);have c:=(h p z6).gf
  obtain⟨b,f,a⟩:∃b:Fr,rv b=gw us G p.1/\Gf m b:=by
   by_cases i:p.1∈us
   . exact⟨G p.1,by unfold gw;rw[if_pos i],(hG _ i).2⟩
   . exact⟨zero,by unfold gw;rw[if_neg i];exact cy,Gf.one m1⟩
  have b0:=d.pos;have b1:=c.pos;have b2:=a.pos;refine⟨(p.2.1*b.1*g.2+g.1*(p.2.2*b.2),p.2.2*b.2*g.2),?_,Ax (Ax b1 b2) b0,?_,?_⟩
  . simp only[lin];rw[<-e1,<-f];have j:=bp b0;have n1:=bp b1;have n2:=bp b2;unfold rv;simp only[Rat.intCast_add,Rat.intCast_mul];grind
  . have:=(((c.top.mul a.top).mul d.bot).mono (n:=1+r.length*(e+m+1)+e+m) (by omega)).add (((d.top.mul (c.bot.mul a.bot)).mono (n:=1+r.length*(e+m+1)+e+m) (by omega)))
    refine this.mono ?_;rw[zq,Nat.succ_mul];omega
  . refine((c.bot.mul a.bot).mul d.bot).mono ?_;rw[zq,Nat.succ_mul];omega
theorem xU{qs ps:List Pq}(pm:qs.Perm ps)(nd:(ps.map (·.1)).Nodup)(ty:∀p∈ps,Ty .tm p.1)(hr:∀(i j:Nat) (p q:Pq),i<=j->qs[i]?=some p->qs[j]?=some q->ltT (prT q) (prT p)=false):Asc qs:=by
 have a:(qs.map (·.1)).Nodup:=by
  rw[(pm.map (·.1)).nodup_iff];exact nd
 unfold Asc;rw[A6];intro i j hi b c;have le:=uR (hr i j _ _ (by omega) (yZ hi) (yZ b))
 refine vH le ?_
 cases q:eqT (qs[i]).1 (qs[j]).1 with
 |false=>rfl
 |true=>
  have e:=pE (ty _ (pm.mem_iff.mp (A7 hi))) (ty _ (pm.mem_iff.mp (A7 b))) q;have n:=An.mp a;rw[A6]at n;exact absurd (by rw[List.getElem_map,List.getElem_map];exact e) (n i j (by rw[yY];exact hi) (by rw[yY];exact b) c)
def spSu(K:PySem.W.Frag):Sp:=fun vs H Q _=>∃(a:Addr) (ns:List Int) (kk:Int) (l:Addr) (ws:List V) (n:Nat),vs= [.ref a, .int kk, .ref l]/\SqL K H a (ns.map V.int)/\ns.length<=63/\0<=kk/\kk<=50000/\H l=some (.lst ws)/\TrsAt H ws (T5.take n)/\1<=n/\n<=5/\
 ∀(r:V) (qs:List Pq) (H':Hp),Same H H'->TrAt H' r (sumT qs)->Asc qs->(∀u∈qs,u.1∈T5)->(∀u∈qs,Gq (mW ns) u)->Q r H'
theorem scSu:FnScope ["_law_script","_law_base","_law_terms_here","_law_pairs","_law_k","_law_share_here"] ["_law_script","_law_base","_law_terms_here"] (ah qL):= .of
theorem uI{f:Addr}{fd:FuncData}(F:Fun K "_law_sum" "_law_sum" qL f fd)(B:Blt mg)(zD:Cl P w K mg base 1 "_law_draw" ["_law_script","_law_k","_law_many"] (dY K))(zS:Cl P w K mg base 2 "_law_share" ["_law_script","_law_base"] (eN K)):FnOk P w K mg base CX0 3 f fd ["_law_script","_law_base","_law_terms_here"] (spSu K):=by
 refine F.okb scSu fun vs H Q E h=>?_;refine hZq fun q_ e_=>?_;obtain⟨a,ns,kk,l,ws,n,rfl,hS,aC,k0,k5,hl,hT,n1,n5,k⟩:=h;subst e_;refine⟨rfl,fun b7 A outer s hr=>?_⟩;have bC:=hr.units;have bj:=vK hr;have bI:Room 1 _:=hr.mono (by decide)
 have bF:Room 2 _:=hr;have a4:=zg (Ac (show 60<=64 by decide) _) bC
 have nd:=scSu.nd
 refine⟨_,ad (psA 3 nd (c5 aa))
  (ad (bX PassesOwn.never rfl (bZ rfl B.ra (a0 (av ar rfl B.le PySem.boot_len (a0 (pv 2) aa)) aa)) (pgA 4 nd)
   (ad (psA 5 nd (ak zS bF (a0 (pv 0) (a0 (am aS (pv 1) (am cN a9 (pv 4))) aa))))
   (ai (bG (PW.pt (dc (ax cr (ak zD bI (a0 (pv 0) (a0 (am aS (am aS (pv 1) (am cN a9 (pv 4))) a9) (a0 a9 aa)))) a9 (ay _)) (cZ (ax (rP bj) (pv 5) (aY (a0 a9 (a0 a9 aa))) (ay _)))))
    (ai (cA (gW PySem.F.plainAttrs_list PySem.F.slot_list_append PySem.F.type_list_append cB (pv 3) (a0 (aY (a0 (ao aA (pv 2) (pv 4) fun _ _=>rfl) (a0 (pv 5) aa))) aa)))) aO))))
  (ai (az (bE dX rfl B.tu PyProof.Rows.boot_tuple (a0 (av (Dj.call_sT a4) rfl B.so PyProof.Rows.boot_sorted (a0 (pv 3) aa)) aa))))),?_⟩
 have bY:(20000:Nat)<=sizeLine:=by decide +kernel
 have wl:=hT.len;have e:T5.length=5:=rfl;rw[zG,e]at wl;refine⟨by show 0<=sizeLine;decide,fun D nD=>?_⟩
 have sD:=ae (o:= .lst []) nD;have af:=a8 (H:=H) (a:=D) (o:= .lst []);generalize upd H D (.lst [])=H2 at sD af ⊢;refine aj ?_
 try dsimp only
 refine⟨_,rfl,l,ws,rfl, .inl (SqL.of (sD _ _ hl)),_,rfl,by omega,by omega,?_⟩
 rw[Ad,wl]
 refine cV (n:=min n 5) (fun j σ H'=>Same H H'/\∃(acc:List V) (ps:List Pq) (v4 v5:Option V),σ= [some (.ref a),some (.int kk),some (.ref l),some (.ref D),v4,v5]/\H' D=some (.lst acc)/\TrsAt H' acc (ps.map prT)/\(ps.map (·.1)).Sublist (T5.take j)/\∀p∈ps,Gq (mW ns) p)
  ⟨sD,[],[],none,none,rfl,af, .nil,by rw[Ak];exact List.Sublist.refl _,fun p m=>by cases m⟩ ?_ ?_
 . intro j σ H3 hj z_;refine hZq fun q_ e_=>?_;obtain⟨x,acc,ps,v4,v5,rfl,hD,hA,c,g⟩:=z_;subst e_;rw[Ap];refine aj ?_
   try dsimp only
   have ac:=SqL.same x hS;refine⟨_,rfl,_,rfl,_,rfl,3,(j:Int),rfl,rfl, .inl ⟨by decide,by decide⟩,kk,3*(j:Int),rfl,rfl,?_⟩
   refine⟨a,ns,kk+3*(j:Int),rfl,ac,aC,by omega,by omega,fun rs fr H4 s4 a3 bB a6=>?_⟩
   have bR:=SqL.same s4 ac;refine aj ?_
   try dsimp only
   have a7:=x.trans s4;have al:=hA.len;rw[yY]at al;have sl:=c.length_le;rw[yY,zG,e]at sl
   have r:∀H',Same H4 H'->Same H H'/\∃(acc:List V) (ps:List Pq) (v4 v5:Option V),[some (.ref a),some (.int kk),some (.ref l),some (.ref D),some (.int (j:Int)),some (.ref rs)]= [some (.ref a),some (.int kk),some (.ref l),some (.ref D),v4,v5]/\H' D=some (.lst acc)/\TrsAt H' acc (ps.map prT)/\(ps.map (·.1)).Sublist (T5.take (j+1))/\∀p∈ps,Gq (mW ns) p:=
    fun H' s'=>⟨a7.trans s',acc,ps,_,_,rfl,s' _ _ (s4 _ _ hD),hA.mono (Kd.of_same (s4.trans s')),c.trans (List.take_sublist_take_left (by omega)),g⟩
   refine⟨_,rfl,_,rfl,_,rfl,3,(j:Int),rfl,rfl, .inl ⟨by decide,by decide⟩,kk,3*(j:Int),rfl,rfl,kk+3*(j:Int),2,rfl,rfl,?_⟩
   refine⟨a,ns,kk+3*(j:Int)+2,3,rfl,bR,aC,by omega,by omega,by decide,fun r2 _ _ _=>?_⟩
   refine⟨r2,0,rfl,rfl,_,rfl,?_⟩;refine ite2 (fun _=>?_) (fun _=>r H4 (Same.refl _));refine⟨_,rfl,two,fun z nz=>?_⟩;have sz:=ae (o:= .tup [.int 0, .int 1]) nz;refine⟨rs,z,fr.1,fr.2,0,1,rfl,rfl,SqT.of (sz _ _ a3),SqT.of a8,_,rfl,?_⟩;have y:=s4.trans sz;generalize upd H4 z (.tup [.int 0, .int 1])=H5 at sz y ⊢;refine ite2 (fun _=>?_) (fun _=>r H5 sz);have bx:j < (T5.take n).length:=by rw[zG,e];omega
   obtain⟨xt,ext,a2⟩:=(hT.mono (Kd.of_same (x.trans y))).get (i:=j) (yZ bx);rw[List.getElem_take]at a2;have bg:=(x.trans y) _ _ hl;have v:=y _ _ hD;refine⟨_,rfl, .inl ⟨rfl,_,SqL.of v⟩,_,rfl,_,rfl,l,ws,(j:Int),xt,rfl,rfl,SqL.of bg,aI ext,_,rfl,two,fun p np=>?_⟩;have sp:=ae (o:= .tup [xt, .ref rs]) np;have a1:=sp _ _ v;refine⟨D,acc,_,rfl,rfl,a1,by omega,?_⟩
   have kd:=(Kd.of_same sp).trans (Kd.upd (ys:=acc++ [.ref p]) a1);have bi:p≠D:=fun z=>by rw[z,v]at np;cases np
   have au:=iW _ (A7 (show j < T5.length by rw[e];omega))
   refine⟨aH nD (x.trans (y.trans sp)),acc++ [.ref p],ps++ [(T5[j],fr)],_,_,rfl,a8,?_,?_,fun q mq=>?_⟩
   . rw[zu];exact TrsAt.app (.cons (cK (a:=T5[j]) (b:=frT fr) ((ag bi).trans a8) (a2.mono kd) ((aP (sz _ _ a3)).mono kd)) .nil) ((hA.mono (Kd.of_same y)).mono kd)
   . rw[zu,aD (yZ (show j < T5.length by rw[e];omega))]
     exact c.append (List.Sublist.refl _)
   . rcases zv.mp mq with mq|mq
     . exact g q mq
     . rw[zw.mp mq];exact⟨au.1,au.2,a6,bB⟩
 . intro σ H3 z_;refine hZq fun q_ e_=>?_;obtain⟨x,acc,ps,v4,v5,rfl,hD,hA,c,g⟩:=z_;subst e_;refine cC ?_
   try dsimp only
   have sl:=c.length_le;rw[yY,zG,e]at sl;have aT:∀p∈ps,p.1∈T5:=fun p m=>At (c.subset (List.mem_map_of_mem (f:=(·.1)) m));have bb:(ps.map (·.1)).Nodup:=c.nodup (T5_nd.sublist (List.take_sublist _ _))
   have d:∀t∈ps.map prT,Ty .pr t/\t.depth<=8:=fun t m=>by
    obtain⟨p,mp,rfl⟩:=zJ.mp m;exact(g p mp).pr
   refine⟨_,rfl,D,acc,_,rfl,hD,hA,by rw[yY];omega,fun t m=>⟨xW (.inr (d t m).1),cX (d t m).1,by have:=(d t m).2;omega⟩,fun t m u mu=>m9 30 (by have:=(d t m).2;omega) (d t m).1 (d u mu).1,fun S ws' b6 nS pm bT a5=>?_⟩
   obtain⟨qs,rfl,pq⟩:=gU pm rfl;have sS:=ae (o:= .lst ws') nS;refine⟨S,ws',rfl, .inl ⟨SqL.of a8,fun p np=>?_⟩⟩;have sp:=ae (o:= .tup ws') np;exact k _ qs _ (x.trans (sS.trans sp)) (jI a8 (bT.mono (Kd.of_same (sS.trans sp)))) (xU pq bb (fun p m=>(g p m).ty) fun i j p q bw e1 e2=>a5 i j _ _ bw (by rw[z7,e1];rfl) (by rw[z7,e2];rfl)) (fun u m=>aT u (pq.mem_iff.mp m)) fun u m=>g u (pq.mem_iff.mp m)
def MetB(g:Tr->Rat)(b:Bnd):Prop:=lin g b.ps < rv b.lim\/(lin g b.ps=rv b.lim/\b.st=false)
def Met(g:Tr->Rat)(bs:List Bnd):Prop:=∀b∈bs,MetB g b
noncomputable def lq(ns:List Int)(k:Nat):Nat:=if eZ ns 3 4=0 then 21 else 39+4*k
theorem mZ(ns:List Int){k n:Nat}(h:k<=n):lq ns k<=lq ns n:=by
 unfold lq;split
 . exact z4 _
 . omega
theorem vI(ns:List Int){k:Nat}(h:k<=8):lq ns k<=71:=by
 unfold lq;split<;>omega
theorem yL(ns:List Int)(k:Nat):mW ns<=lq ns k:=by
 unfold mW lq;split<;>omega
structure Gh (e q:Nat) (us:List Pq) (m:Fr):Prop where
 asc:Asc us
 mem:∀u∈us,u.1∈T5
 gq:∀u∈us,Gq e u
 sh:Sh m
 gf:Gf q m
theorem Gh.mono{e q q':Nat}{us:List Pq}{m:Fr}(h:Gh e q us m)(hq:q<=q'):Gh e q' us m:=⟨h.asc,h.mem,h.gq,h.sh,h.gf.mono hq⟩
theorem Gh.l5{e q:Nat}{us:List Pq}{m:Fr}(h:Gh e q us m):us.length<=5:=Su.asc_len h.asc h.mem
def Ub(ns:List Int)(b:Bnd):Prop:=Gh (mW ns) (lq ns 8) b.ps b.lim
theorem vj{us:List Pq}(h:Asc us):Asc (us.map neg):=by
 unfold Asc at*;rw[List.pairwise_map];exact h
theorem sV{e:Nat}{f:Fr}(h:Gf e f):Gf e (negF f):=⟨h.pos,by show(-f.1).natAbs < _;rw[AA];exact h.top,h.bot⟩
def gK(P:Program)(w:World)(K:PySem.W.Frag):Sp:=fun vs H Q _=>∃(a:Addr) (ns:List Int) (l:Addr) (ws:List V) (n:Nat) (d:Addr) (us:List Tr) (G:Tr->Fr) (way:Int),vs= [.ref a, .ref l, .ref d, .int way]/\SqL K H a (ns.map V.int)/\ns.length<=63/\H l=some (.lst ws)/\TrsAt H ws (T5.take n)/\1<=n/\n<=5/\Dj.DAt P w K H d us G/\(∀t∈us,Sh (G t)/\Gf (mW ns) (G t))/\way=eZ ns 3 4/\0<=way/\way < 4/\
 ∀(lb:Addr) (bvs:List V) (bs:List Bnd) (H':Hp),Same H H'->H lb=none->H' lb=some (.lst bvs)->TrsAt H' bvs (bs.map bdT)->(∀b∈bs,Ub ns b)->bs.length<=8->(way=3->Met (gw us G) bs)->Q (.ref lb) H'
noncomputable def nBo:List Str:= ["_law_script","_law_terms_here","_law_point","_law_way","_law_bounds_here","_law_k","_law_whole","_law_strict","_law_most","_law_beyond","_law_other"]
theorem scBo:FnScope nBo ["_law_script","_law_terms_here","_law_point","_law_way"] (ah jf):= .of
theorem oC{f:Addr}{fd:FuncData}(F:Fun K "_law_bounds" "_law_bounds" jf f fd)(B:Blt mg)(zD:Cl P w K mg base 1 "_law_draw" ["_law_script","_law_k","_law_many"] (dY K))(zL:Cl P w K mg base 1 "_law_least" ["_law_top","_law_bottom"] gJ)(zS:Cl P w K mg base 2 "_law_share" ["_law_script","_law_base"] (eN K))(zP:Cl P w K mg base 2 "_law_plus" ["_law_one","_law_other"] eP)(zU:Cl P w K mg base 3 "_law_sum" ["_law_script","_law_base","_law_terms_here"] (spSu K))(zV:Cl P w K mg base 3 "_law_value" ["_law_whole","_law_numbers_here"] (mj P w K)):FnOk P w K mg base CX0 4 f fd ["_law_script","_law_terms_here","_law_point","_law_way"] (gK P w K):=by
 refine F.okb scBo fun vs H Q E h=>?_;refine hZq fun q_ e_=>?_;obtain⟨a,ns,l,ws,n,d,us,G,way,rfl,hS,c,hl,hT,n1,n5,hD,hG,ew,w0,w4,k⟩:=h;subst e_;refine⟨rfl,fun f7 A outer s hr=>?_⟩;have af:Room 1 _:=hr.mono (by decide)
 have c4:Room 2 _:=hr.mono (by decide)
 have ed:Room 3 _:=hr;have nd:=scBo.nd;have ey:(["_law_one"]:List Str).Nodup:=by decide +kernel
 refine⟨_,ad (psA 4 nd (c5 aa))
  (ad (bX PassesOwn.never rfl (bZ rfl B.ra (a0 (ak zD af (a0 (pv 0) (a0 a9 (a0 a9 aa)))) aa)) (pgA 5 nd)
   (ad (psA 6 nd (ak zU ed (a0 (pv 0) (a0 (am aS a9 (am cN a9 (pv 5))) (a0 (pv 1) aa)))))
   (ad (psA 7 nd (cf ci (ak zD af (a0 (pv 0) (a0 (am aS a9 (pv 5)) (a0 a9 aa)))) a9 (ay _)))
   (ad (psA 8 nd (ak zS c4 (a0 (pv 0) (a0 (am aS a9 (am cN a9 (pv 5))) aa))))
   (ad (bG (ax cr (pv 3) a9 (ay _))
    (ad (psA 9 nd (ak zL af (a0 (ak zD af (a0 (pv 0) (a0 (am aS a9 (pv 5)) (a0 a9 aa)))) (a0 (am aS a9 (ak zD af (a0 (pv 0) (a0 (am aS a9 (pv 5)) (a0 a9 aa))))) aa))))
    (ad (psA 8 nd (ak zP c4 (a0 (ak zV ed (a0 (pv 6) (a0 (pv 2) aa))) (a0 (pv 9) aa))))
    (ai (psA 7 nd (dg (pv 7) (dA (cf cr (ao aw (pv 9) a9 fun _ _=>rfl) a9 (ay _)))))))) aO)
   (ad (bG (PW.pt (dc (ax cr (pv 5) a9 (ay _)) (dc (rA iG iG a9 (pv 3) a9) (cZ (ax ci (ak zD af (a0 (pv 0) (a0 (am aS a9 (pv 5)) (a0 a9 aa)))) a9 (ay _))))))
    (ad (psA 10 nd (ao aA (pv 4) (ak zD af (a0 (pv 0) (a0 (am aS a9 (pv 5)) (a0 (pv 5) aa)))) fun _ _=>rfl))
    (ad (psA 6 nd (bE dX rfl B.tu PyProof.Rows.boot_tuple (a0 (aQ (NC:= ["_law_one"]) (mp:= [none]) rfl (dz (ao aw (pv 10) a9 fun _ _=>rfl)) (fun _ _ _ _ _=>pgA 0 ey) (fun _ _ _ _ _=>aZ)
     (fun _ _ _ _ _=>aY (a0 (ao (r:=rIxT K) aw (pv 0) a9 fun _ _=>rfl) (a0 (aY (a0 (cg bu (ao (r:=rIxT K) aw (ao (r:=rIxT K) aw (pv 0) a9 fun _ _=>rfl) a9 fun _ _=>rfl)) (a0 (ao (r:=rIxT K) aw (ao (r:=rIxT K) aw (pv 0) a9 fun _ _=>rfl) a9 fun _ _=>rfl) aa))) aa)))) aa)))
    (ai (psA 8 nd (ak zP c4 (a0 (aY (a0 (cg bu (ao aw (ao aw (pv 10) a9 fun _ _=>rfl) a9 fun _ _=>rfl)) (a0 (ao aw (ao aw (pv 10) a9 fun _ _=>rfl) a9 fun _ _=>rfl) aa))) (a0 (aY (a0 (am fA (ak zD af (a0 (pv 0) (a0 (am aS a9 (pv 5)) (a0 a9 aa)))) (am mS (pv 3) a9)) (a0 a9 aa))) aa))))))) aO)
   (ai (cA (gW PySem.F.plainAttrs_list PySem.F.slot_list_append PySem.F.type_list_append cB (pv 4) (a0 (aY (a0 (pv 6) (a0 (pv 8) (a0 (pv 7) aa)))) aa))))))))))
  (ai (az (pv 4)))),?_⟩
 have fh:(20000:Nat)<=sizeLine:=by decide +kernel
 refine⟨by show 0<=sizeLine;decide,fun lb cb=>?_⟩
 have s0:=ae (o:= .lst []) cb;have bR:=a8 (H:=H) (a:=lb) (o:= .lst []);generalize upd H lb (.lst [])=H0 at s0 bR ⊢;refine aj ?_
 try dsimp only
 refine⟨_,rfl,a,ns,4,9,rfl,SqL.same s0 hS,c,by decide,by decide,by decide,fun r0 gk f3 _=>?_⟩
 obtain⟨nb,rfl⟩:∃nb:Nat,r0=(nb:Int):=⟨r0.toNat,by omega⟩
 refine⟨(nb:Int),rfl,by omega,by omega,?_⟩
 rw[Ad]
 refine cV (n:=nb) (fun i σ H'=>Same H H'/\∃(bvs:List V) (bs:List Bnd) (x5 x6 x7 x8 x9 bY:Option V),σ= [some (.ref a),some (.ref l),some (.ref d),some (.int way),some (.ref lb),x5,x6,x7,x8,x9,bY]/\H' lb=some (.lst bvs)/\TrsAt H' bvs (bs.map bdT)/\(∀b∈bs,Gh (mW ns) (lq ns i) b.ps b.lim)/\bs.length=i/\(way=3->Met (gw us G) bs))
  ⟨s0,[],[],none,none,none,none,none,none,rfl,bR, .nil,(fun b m=>by cases m),rfl,fun _ b m=>by cases m⟩ ?_ ?_
 . intro i σ H1 hi z_;refine hZq fun q_ e_=>?_;obtain⟨sH,bvs,bs,x5,x6,x7,x8,x9,bY,rfl,bB,hB,bj,bl,cd⟩:=z_;subst e_;have i7:i<=7:=by omega
   have bg:=SqL.same sH hS;rw[Ap];refine aj ?_
   try dsimp only
   refine⟨_,rfl,_,rfl,20,(i:Int),rfl,rfl, .inl ⟨by decide,by decide⟩,60,20*(i:Int),rfl,rfl,_,rfl,a,ns,60+20*(i:Int),l,ws,n,rfl,bg,c,by omega,by omega,sH _ _ hl,hT.mono (Kd.of_same sH),n1,n5,fun xw qs H2 s2 ac a1 aC a7=>?_⟩
   refine aj ?_
   try dsimp only
   have cm:=SqL.same s2 bg;refine⟨_,rfl,_,rfl,260,(i:Int),rfl,rfl,a,ns,260+(i:Int),3,rfl,cm,c,by omega,by omega,by decide,fun r1 _ _ _=>?_⟩
   refine⟨rfl,?_⟩;refine aj ?_
   try dsimp only
   generalize decide (V.int r1=V.int 1)=b8;refine⟨_,rfl,_,rfl,2,(i:Int),rfl,rfl, .inl ⟨by decide,by decide⟩,280,2*(i:Int),rfl,rfl,a,ns,280+2*(i:Int),rfl,cm,c,by omega,by omega,fun rm fm H3 s3 d2 dV d4=>?_⟩
   refine aj ?_
   try dsimp only
   have bw:=s2.trans s3;have a6:=ac.mono (Kd.of_same s3);have b6:=SqL.same bw bg;have e7:=hB.len;rw[yY]at e7
   let R:L2.St->Hp->Prop:=fun σ' H'=>Same H1 H'/\∃(xw:V) (r:Addr) (vs:List Pq) (mm:Fr) (st:Bool) (y9 a5:Option V),σ'= [some (.ref a),some (.ref l),some (.ref d),some (.int way),some (.ref lb),some (.int (i:Int)),some xw,some (.bl st),some (.ref r),y9,a5]/\TrAt H' xw (sumT vs)/\H' r=some (.tup [.int mm.1, .int mm.2])/\Gh (mW ns) (lq ns (i+1)) vs mm/\(way=3->MetB (gw us G) ⟨vs,mm,st⟩)
   refine bP R ?_ fun nx a3=>?_;rotate_left
   . refine⟨_,rfl,way,0,rfl,rfl,_,rfl,?_⟩;refine ite2 (fun y1=>?_) (fun y1=>a3 _ _ ⟨bw,xw,rm,qs,fm,b8,_,_,rfl,a6,d2,⟨a1,aC,a7,dV,d4.mono (yL ns _)⟩,fun z=>absurd (decide_eq_true (show 0 < way by omega)) y1⟩)
     have wp:0 < way:=of_decide_eq_true y1;have d3:¬eZ ns 3 4=0:=by omega
     have em:mW ns=3:=by unfold mW;rw[if_neg d3]
     have el:∀k,lq ns k=39+4*k:=fun k=>by unfold lq;rw[if_neg d3]
     refine⟨_,rfl,_,rfl,300,(i:Int),rfl,rfl,a,ns,300+(i:Int),3,rfl,b6,c,by omega,by omega,by decide,fun r2 e8 gn _=>?_⟩
     refine⟨_,rfl,_,rfl,320,(i:Int),rfl,rfl,a,ns,320+(i:Int),3,rfl,b6,c,by omega,by omega,by decide,fun r3 f2 f4 _=>?_⟩
     refine⟨1,r3,rfl,rfl,r2,1+r3,rfl,by omega,cJ (by show(1+r3).natAbs < _;exact zg (show(1+r3).natAbs<=3 by omega) (by decide +kernel)) (by omega),fun rb H4 eH e4=>?_⟩
     have s4:Same H3 H4:=by rw[e4];exact ae eH
     have dj:H4 rb=some (.tup [.int (low r2 (1+r3)).1, .int (low r2 (1+r3)).2]):=by rw[e4];exact a8
     have ec:Sh (low r2 (1+r3)):=e5 (by omega)
     have eq:Gf 2 (low r2 (1+r3)):=jx (by omega) (hE (b:=3) (by omega) (by decide)) (hE (b:=3) (by omega) (by decide))
     have eG:0<=rv (low r2 (1+r3)):=by
      rw[gP (by omega),Rat.div_def]
      refine Rat.mul_nonneg ?_ (Rat.le_of_lt (Rat.inv_pos.mpr (cF (by omega))))
      exact_mod_cast e8
     clear e4;generalize low r2 (1+r3)=fb at dj ec eq eG;refine aj ?_
     try dsimp only
     have dH:=s3.trans s4;refine⟨_,rfl,_,rfl,xw,d,us,G,qs,3,3,36,rfl,ac.mono (Kd.of_same dH),hD.same (sH.trans (s2.trans dH)),fun p m=>by rw[<-em];exact a7 p m,fun t m=>by rw[<-em];exact hG t m,by decide,fun q f hq eR ef=>?_,by decide,by decide,fun eT fv H5 s5 fa fR ev gv=>?_⟩
     . obtain⟨g,e1,g1⟩:=vP (us:=us) (G:=G) (e:=3) (m:=3) (by decide) (fun t m=>by rw[<-em];exact hG t m) (ps:=qs.take q) fun p m=>by rw[<-em];exact a7 p (At m)
       have l5:(qs.take q).length<=5:=by
        rw[zG];have:=Su.asc_len a1 aC;have t5:T5.length=5:=rfl;omega
       have:=As (3+3+1) l5;exact Gf.low eR (g1.mono (by omega)) (ef.trans e1.symm)
     refine⟨_,rfl, .ref eT, .ref rb,fv,fb,36,2,rfl,aP fa,aP (s5 _ _ dj),gv,eq,by decide,fun z1 H6 f1 s6 a4 b7 e1 g1=>?_⟩
     obtain⟨bb,rfl,a2⟩:=bU a4;refine aj ?_
     try dsimp only
     have db:=s5.trans s6;refine⟨_,rfl,b8,rfl,?_⟩;have gh:Gh (mW ns) (lq ns (i+1)) qs f1:=⟨a1,aC,a7,b7,g1.mono (by rw[el];omega)⟩
     have bI:=bw.trans (s4.trans db);have bT:=a6.mono (Kd.of_same (s4.trans db))
     have le:lin (gw us G) qs<=rv f1:=by
      rw[e1,ev];grind
     cases b8 with
     |false=>
      refine iteF ?_;refine aj ?_;refine a3 _ _ ⟨bI,xw,bb,qs,f1,false,_,_,rfl,bT,a2,gh,fun _=>?_⟩;rcases Rat.le_iff_lt_or_eq.mp le with h|h
      . exact .inl h
      . exact .inr ⟨h,rfl⟩
     |true=>
      refine iteT ?_;refine⟨_,rfl,rb,_,0, .int fb.1,rfl,rfl,SqT.of (db _ _ dj),rfl,fb.1,0,rfl,rfl,?_⟩;refine aj ?_;refine a3 _ _ ⟨bI,xw,bb,qs,f1,_,_,_,rfl,bT,a2,gh,fun _=>?_⟩;by_cases p:0 < fb.1
      . left;have:=(g9 ec.1).mpr p;show lin (gw us G) qs < rv f1;rw[e1,ev];grind
      . have e0:decide (0 < fb.1)=false:=decide_eq_false p;show _\/(_/\decide (0 < fb.1)=false);rw[e0];rcases Rat.le_iff_lt_or_eq.mp le with h|h
        . exact .inl h
        . exact .inr ⟨h,rfl⟩
   clear a6 d2 dV d4 b6 bw ac a1 aC a7 s2 s3 cm;intro σ' H6 z_;refine hZq fun q_ e_=>?_;obtain⟨s6,xw,r,vs,mm,st,y9,a5,rfl,ac,bC,gh,aT⟩:=z_;subst e_;refine bP R ?_ fun nx a3=>?_;rotate_left
   . have cI:=SqL.same s6 bg;have no:nx [some (.ref a),some (.ref l),some (.ref d),some (.int way),some (.ref lb),some (.int (i:Int)),some xw,some (.bl st),some (.ref r),y9,a5] H6:=a3 _ _ ⟨s6,xw,r,vs,mm,st,_,_,rfl,ac,bC,gh,aT⟩;refine⟨_,rfl,(i:Int),0,rfl,rfl,_,rfl,?_⟩;refine ite2 (fun y1=>?_) (fun _=>iteF no)
     have fq:0 < i:=by
      have:=of_decide_eq_true y1;omega
     refine⟨_,rfl,0,way,rfl,rfl,_,rfl,?_⟩;by_cases wp:0 < way;rotate_left
     . rw[decide_eq_false wp];exact iteF ⟨_,rfl,iteF (iteF no)⟩
     rw[decide_eq_true wp];refine iteT ?_;refine⟨way,3,rfl,rfl,_,rfl,?_⟩;refine ite2 (fun y2=>?_) (fun _=>iteF no);have w3:way < 3:=of_decide_eq_true y2;have d3:¬eZ ns 3 4=0:=by omega
     have el:∀k,lq ns k=39+4*k:=fun k=>by unfold lq;rw[if_neg d3]
     refine⟨_,rfl,_,rfl,340,(i:Int),rfl,rfl,a,ns,340+(i:Int),3,rfl,cI,c,by omega,by omega,by decide,fun r2 _ _ _=>?_⟩
     refine⟨rfl,_,rfl,?_⟩;refine ite2 (fun _=>?_) (fun _=>no);have y:=s6 _ _ bB;refine⟨_,rfl,_,rfl,_,rfl,360,(i:Int),rfl,rfl,_,rfl,a,ns,360+(i:Int),(i:Int),rfl,cI,c,by omega,by omega,by omega,fun rf fC f5 _=>?_⟩
     refine hZq fun q_ e_=>?_;obtain⟨nf,rfl⟩:∃nf:Nat,rf=(nf:Int):=⟨rf.toNat,by omega⟩
     have lf:nf < bs.length:=by omega
     obtain⟨f8,e6,d8⟩:=(hB.mono (Kd.of_same s6)).get (i:=nf) (t:=bdT bs[nf]) (by rw[z7,yZ lf];rfl)
     obtain⟨q1,gm,gl,fB,rfl,eb,eg,eu,_⟩:=dN d8;have g1:=bj _ (A7 lf);generalize bs[nf]=b1 at eg eu g1 d8;obtain⟨m1,rfl,d6⟩:=bU eu;obtain⟨au,ys,rfl,d5,er⟩:=at_t eg;subst e_;have yl:=er.len;rw[yY]at yl;refine⟨lb,bvs,(nf:Int), .ref q1,rfl,rfl,SqL.of y,aI e6,?_⟩;refine aj ?_
     try dsimp only
     refine u8 ?_;refine bO rfl ?_;refine⟨_,rfl,q1,_,0, .ref au,rfl,rfl,SqT.of eb,rfl,au,rfl,⟨_,SqT.of d5⟩,fun L nL=>?_⟩;have l5:=g1.l5;refine kE (xs:=ys) (fun j acc H'=>Same H6 H'/\H' L=some (.lst acc)/\TrsAt H' acc (((b1.ps.take j).map neg).map prT)) ⟨ae nL,a8, .nil⟩ (fun j acc H' p=>SqT.of (p.1 _ _ d5)) ?_ ?_
     . intro j x acc H' hj ex z_;refine hZq fun q_ e_=>?_;obtain⟨s7,hL,hA⟩:=z_;obtain⟨t,et,ht⟩:=(er.mono (Kd.of_same s7)).get' ex;rw[z7]at et;obtain⟨⟨tm,fr⟩,ek,rfl⟩:=zf.mp et;obtain⟨T',x1,z1,rfl,cp,ez,a4⟩:=bL ht;obtain⟨bi,rfl,eo⟩:=bU a4;subst e_;have al:=hA.len;rw[yY,yY,zG]at al;refine⟨_,rfl,T',_,0,x1,rfl,rfl,SqT.of cp,rfl,_,rfl,T',_,1, .ref bi,rfl,rfl,SqT.of cp,rfl,bi,_,0, .int fr.1,rfl,rfl,SqT.of eo,rfl,fr.1,rfl,_,rfl,T',_,1, .ref bi,rfl,rfl,SqT.of cp,rfl,bi,_,1, .int fr.2,rfl,rfl,SqT.of eo,rfl,two,fun p1 c3=>?_⟩;have t1:=ae (o:= .tup [.int (-fr.1), .int fr.2]) c3;refine⟨two,fun p2 c2=>?_⟩;have t2:=ae (o:= .tup [x1, .ref p1]) c2;have ej:=(t1.trans t2) _ _ hL;have n1:p1≠L:=fun z=>by rw[z,hL]at c3;cases c3
       have n2:p2≠L:=fun z=>by rw[z,t1 _ _ hL]at c2;cases c2
       have kd:=(Kd.of_same (t1.trans t2)).trans (Kd.upd (ys:=acc++ [.ref p2]) ej);refine CompN.mk hj (by omega) ej ⟨aH nL (s7.trans (t1.trans t2)),a8,?_⟩
       rw[aD ek,zu,zu];exact TrsAt.app (.cons (cK (a:=tm) (b:=frT (-fr.1,fr.2)) ((ag n2).trans a8) (ez.mono kd) (aP ((ag n1).trans (t2 _ _ a8)))) .nil) (hA.mono kd)
     rintro acc H7 ⟨s7,hL,hA⟩;rw[yl,zx]at hA;refine⟨L,acc,rfl, .inl ⟨SqL.of hL,fun p np=>?_⟩⟩;have sp:=ae (o:= .tup acc) np;have d9:TrAt (upd H7 p (.tup acc)) (.ref p) (sumT (b1.ps.map neg)):=jI a8 (hA.mono (Kd.of_same sp));have bx:=s7.trans sp;generalize upd H7 p (.tup acc)=H8 at d9 bx ⊢;refine aj ?_
     try dsimp only
     have dI:=bx _ _ eb;have d0:=bx _ _ d6;refine⟨_,rfl,q1,_,1, .ref m1,rfl,rfl,SqT.of dI,rfl,m1,_,0, .int b1.lim.1,rfl,rfl,SqT.of d0,rfl,b1.lim.1,rfl,_,rfl,q1,_,1, .ref m1,rfl,rfl,SqT.of dI,rfl,m1,_,1, .int b1.lim.2,rfl,rfl,SqT.of d0,rfl,two,fun p3 e3=>?_⟩;have t3:=ae (o:= .tup [.int (-b1.lim.1), .int b1.lim.2]) e3;have d7:=a8 (H:=H8) (a:=p3) (o:= .tup [.int (-b1.lim.1), .int b1.lim.2]);generalize upd H8 p3 (.tup [.int (-b1.lim.1), .int b1.lim.2])=H9 at t3 d7 ⊢;have ea:=bx.trans t3;refine⟨_,rfl,_,rfl,380,(i:Int),rfl,rfl,a,ns,380+(i:Int),2,rfl,SqL.same ea cI,c,by omega,by omega,by decide,fun r5 gb fM _=>?_⟩
     refine⟨_,rfl,way,2,rfl,rfl,⟨by decide,by decide⟩,r5,way / 2,rfl,rfl,two,fun p4 eB=>?_⟩
     have t4:=ae (o:= .tup [.int (r5 - way / 2), .int 7]) eB;have g7:Gf 3 ((r5 - way / 2,7):Fr):=⟨by show(0:Int) < 7;decide,by show(r5 - way / 2).natAbs < 2^3;omega,by show(7:Nat) < 2^3;decide⟩
     have f0:=vI ns (k:=i) (by omega)
     refine⟨.ref p3, .ref p4,negF b1.lim,(r5 - way / 2,7),lq ns i,3,rfl,aP (t4 _ _ d7),aP a8,sV g1.gf,g7,by omega,fun z1 f6 f1 ee a4 b7 _ eL=>?_⟩
     obtain⟨bb,rfl,a2⟩:=bU a4;refine aj ?_;refine a3 _ _ ⟨s6.trans (ea.trans (t4.trans ee)), .ref p,bb,b1.ps.map neg,f1,st,_,_,rfl,d9.mono (Kd.of_same (t3.trans (t4.trans ee))),a2,⟨vj g1.asc,fun u m=>?_,fun u m=>?_,b7,eL.mono (by rw[el,el];omega)⟩,fun z=>by omega⟩
     . obtain⟨v,mv,rfl⟩:=zJ.mp m;exact g1.mem v mv
     . obtain⟨v,mv,rfl⟩:=zJ.mp m;have gv:=g1.gq v mv;exact⟨gv.ty,gv.dep,sV gv.gf,wd gv.sh⟩
   clear ac bC gh aT s6;clear xw r vs mm st y9 a5 H6;intro σ' H6 z_;refine hZq fun q_ e_=>?_;obtain⟨s6,xw,r,vs,mm,st,y9,a5,rfl,ac,bC,gh,aT⟩:=z_;subst e_;have y:=s6 _ _ bB;refine⟨_,rfl, .inl ⟨rfl,_,SqL.of y⟩,_,rfl,_,rfl,_,rfl,by show 3<=sizeLine;decide,fun p np=>?_⟩
   have sp:=ae (o:= .tup [xw, .ref r, .bl st]) np;have bF:=sp _ _ y;refine⟨lb,bvs,_,rfl,rfl,bF,by omega,?_⟩
   have kd:=(Kd.of_same sp).trans (Kd.upd (ys:=bvs++ [.ref p]) bF);have fg:p≠lb:=fun z=>by rw[z,y]at np;cases np
   refine⟨aH cb (sH.trans (s6.trans sp)),bvs++ [.ref p],bs++ [⟨vs,mm,st⟩],_,_,_,_,_,_,rfl,a8,?_,fun b mb=>?_,by rw[zK,bl];rfl,fun z b mb=>?_⟩
   . rw[zu];refine TrsAt.app (.cons (jI ((ag fg).trans a8) (.cons (ac.mono kd) (.cons ((aP bC).mono kd) (.cons (by unfold TrAt;rfl) .nil)))) .nil) ((hB.mono (Kd.of_same s6)).mono kd)
   . rcases zv.mp mb with mb|mb
     . exact(bj b mb).mono (mZ ns (by omega))
     . rw[zw.mp mb];exact gh
   . rcases zv.mp mb with mb|mb
     . exact cd z b mb
     . rw[zw.mp mb];exact aT z
 . intro σ H1 z_;refine hZq fun q_ e_=>?_;obtain⟨sH,bvs,bs,x5,x6,x7,x8,x9,bY,rfl,bB,hB,bj,bl,cd⟩:=z_;subst e_;exact⟨_,rfl,k lb bvs bs H1 sH cb bB hB (fun b m=>(bj b m).mono (mZ ns (by omega))) (by omega) cd⟩
end
end K39
namespace Dj
open PySem PySem.Spec PyProof.Rows L2 Tre Wd Su
def Itd(a:Addr)(o:Obj)(u:HO)(ks:List V):It:=⟨fun i H=>H a=some (.frz o u)/\i < ks.length,fun i H x H'=>H'=H/\ks[i]?=some x,fun i H=>H a=some (.frz o u)/\ks.length<=i⟩
section
variable{X:Cx}{pins:List (Addr×Obj)}{σ:L2.St}{H:Hp}{s:Shared}{a:Addr}
theorem va{kvs:List Ent}{o:Obj}{P:Program}{w:World}(I:Inv X pins σ H s)(ha:H a=some (dJ P w a kvs))(ho:s.heap.get? a=some o):Inv X pins σ (upd H a (.frz o (dJ P w a kvs))) s:=by
 have ne:∀ {b:Addr} {u:HO},H b=some u->(∀z,dJ P w a kvs=z->u≠z)->b≠a:=fun e q z=>by
  rw[z,ha]at e;exact q _ rfl (ze e).symm
 have st:∀ {b:Addr} {u:HO},ObjOk X.prog X.w H s.heap b u->ObjOk X.prog X.w (upd H a (.frz o (dJ P w a kvs))) s.heap b u:=fun x=>
  x.stay (fun _ _ _ q=>q) (fun b q=>by rw[ag (ne q fun z e=>by subst e;intro t;cases t)];exact q) fun b xs q=>by rw[ag (ne q fun z e=>by subst e;intro t;cases t)];exact q
 exact I.step (h':=s.heap) (g':=s.gens) (d':=s.drawn) (t':=s.toks) (ch:= []) (fun _ z=>nomatch z) (fun b o _ _ _ e _=>e) (fun b o _ _ _ e _=>⟨o.slots,e⟩)
  (fun b o _ e n=>by rw[ag (fun z=>by rw[z,ha]at n;cases n)];exact n) (fun b o _ e=>⟨o,e⟩)
  (fun b xs e=>by rw[ag (ne e fun z q=>by subst q;intro t;cases t)];exact e) (fun b o' u e=>by rw[ag (ne e fun z q=>by subst q;intro t;cases t)];exact e)
  (fun b ps e=>⟨#[],by rw[ag (ne e fun z q=>by subst q;intro t;cases t),e];simp⟩) (fun m hm=>hm) (fun b u e=>by
   by_cases z:b=a
   . subst z;rw[a8]at e;cases e;exact⟨ho,st (I.hok b _ ha)⟩
   . rw[ag z]at e
     exact st (I.hok b u e)) I.bare
end
end Dj
namespace Dj
open PySem PySem.Spec PySem.W PyProof.Rows L2 Tre
section
variable{prog:Program}{w:World}{A:Around}{E:Value->Shared->Prop}{s:Shared}{d it v:Addr}{es:Array DictEntry}{ep:Nat}
end
theorem paired_get{α β:Type}{F:α->β->Prop}:∀ {l₁:List α} {l₂:List β} {i:Nat} {a:α},Paired F l₁ l₂->l₁[i]?=some a->∃b,l₂[i]?=some b/\F a b
 |_,_,i,a, .nil,h=>by simp at h
 |_,_,0,a, .cons r _,h=>by
  simp at h;subst h;exact⟨_,rfl,r⟩
 |_,_,i+1,a, .cons _ rs,h=>by
  obtain⟨b,e,q⟩:=paired_get (i:=i) rs (by simpa using h)
  exact⟨b,by simpa using e,q⟩
section
variable{X:Cx}
end
open PySem PySem.Spec PySem.W PyProof.Rows L2 Tre
section
variable{prog:Program}{w:World}{A:Around}{E:Value->Shared->Prop}{s:Shared}{d it v:Addr}{es:Array DictEntry}{ep:Nat}
theorem lB{Q:Value->Shared->Prop}(hd:(d==sysModules)=false)(hm:RawD s.heap d es ep)(hQ:Q (.ref s.heap.objs.size) {s with heap:=s.heap.push {cls:= .type "dict_values",data:= .fields #[.ref d]}}):wpAny (model prog w) A (call (.builtin "dict.values") [.ref d]) Q E s:=by
 have a:=hm.ty;refine wpAny_call_entry F.slot_dict_values a F.entry_dict_values ?_ (F.args_dict_values_1 _);unfold Builtin.«dict.values»;refine wpAny_bind ?_;unfold Builtin.Dict.noArgs;refine wpAny_bind (wpAny_notOrdered_dict a ?_);show wpAny _ _ (pure d) _ _ s;refine wpAny_pure ?_;show wpAny _ _ (Builtin.Dict.showsAll d >>=_) _ _ s;unfold Builtin.Dict.showsAll;rw[if_neg (by rw[hd];exact zo)]
 refine wpAny_bind (wpAny_pure ?_);exact wpAny_bind (wpAny_newObj_type (wpAny_pure ⟨_,rfl,hQ⟩))
theorem jM{Q:Value->Shared->Prop}(hv:s.heap.IsValuesView v d)(hm:RawD s.heap d es ep)(hQ:Q (.ref s.heap.objs.size) {s with heap:=s.heap.push {cls:= .type "dict_valueiterator",data:= .fields #[.ref d, .int 0 0, .int es.size 0, .int ep 0]}}):
 wpAny (model prog w) A (pyIter (.ref v)) Q E s:=by
 obtain⟨ov,c,f,e⟩:=id hv;obtain⟨o,ho,hc,a⟩:=id hm;refine wpAny_pyIter_slot hv.typeIs F.slot_dict_values_iter (wpAny_call_entry F.slot_dict_values_iter hv.typeIs F.entry_dict_values_iter ?_ (F.args_dict_values_iter_1 _));unfold Builtin.«dict_values.__iter__»;refine wpAny_bind (wpAny_pure ?_);refine wpAny_bind ?_;unfold Builtin.Dict_items.dictOf;refine wpAny_bind (wpAny_field c e (x:= .ref d) rfl (wpAny_pure ?_));refine wpAny_bind ?_;unfold Builtin.Dict_items.newIterator;refine wpAny_bind (wpAny_dictEntries ho a ?_);refine wpAny_bind (wpAny_dictEpoch ho a ?_);have b:Builtin.Dict_items.ownsTuple "dict_valueiterator"=false:=by decide
 simp only[b,Ag,if_false];refine wpAny_newObj_type (wpAny_pure ⟨_,rfl,"dict_valueiterator",_,⟨_,Heap.get?_push_size _ rfl,rfl⟩,F.slot_dict_valueiterator_next.lookup,?_⟩);simpa [rawInt]using hQ
theorem p7{i:Nat}{Q:Option Value->Shared->Prop}(hit:s.heap.IsValIter it d i es.size ep)(hm:RawD s.heap d es ep)(hi:i < es.size)(hQ:∀h',h'.IsValIter it d (i+1) es.size ep->Heap.SameBut it s.heap h'->Q (some es[i].val) {s with heap:=h'}):wpAny (model prog w) A (pyNext (.ref it)) Q E s:=by
 obtain⟨o,ho,hc,hd⟩:=id hit;obtain⟨g,e,f,c⟩:=id hm;have b:Builtin.Dict_items.ownsTuple "dict_valueiterator"=false:=by decide
 unfold pyNext;refine wpAny_bind (wpAny_attempt (wpAny_callSpecial?_slot (name:=Str.ofString "__next__") hit.typeIs F.slot_dict_valueiterator_next (wpAny_call_entry F.slot_dict_valueiterator_next hit.typeIs F.entry_dict_valueiterator_next ?_ (F.args_dict_valueiterator_next_1 _))));refine wpAny_bind (wpAny_pure (wpAny_bind (wpAny_bind ?_)))
 first|refine wpAny_bind (wpAny_typeNameOfWhole_valiter hit.typeIs (wpAny_pure (wpAny_bind (wpAny_fieldsOf ho hd ?_))))|refine wpAny_bind (wpAny_typeNameOf_valiter hit.typeIs (wpAny_pure (wpAny_bind (wpAny_fieldsOf ho hd ?_))))
 simp only[b,Ag,if_false];show wpAny _ _ (if (Value.ref d==Value.none)=true then _ else _) _ _ s;rw[if_neg (show¬((Value.ref d==Value.none)=true)from zo)];refine wpAny_bind (wpAny_pure (wpAny_bind (wpAny_dictEntries e c ?_)));rw[if_neg (by simp)];refine wpAny_bind (wpAny_pure (wpAny_bind (wpAny_dictEpoch e c ?_)));rw[if_neg (by simp)];refine wpAny_pure ?_
 simp only[show¬((i:Int) < 0)from by omega,if_false,Ad,zQ hi];refine wpAny_bind ?_
 first|refine wpAny_bind (wpAny_typeNameOfWhole_valiter hit.typeIs (wpAny_pure (wpAny_bind (wpAny_isOneOf_valiter hit.typeIs ?_))))|refine wpAny_bind (wpAny_typeNameOf_valiter hit.typeIs (wpAny_pure (wpAny_bind (wpAny_isOneOf_valiter hit.typeIs ?_))))
 show wpAny _ _ (setField (.ref it) 1 (rawInt ((i:Int)+1)) >>=_) _ _ s;refine wpAny_bind (wpAny_setField ho hd (by simp) ?_)
 have a:(s.heap.update it (Obj.mapFields (·.setIfInBounds 1 (rawInt ((i:Int)+1))))).IsValIter it d (i+1) es.size ep:=⟨_,Heap.get?_update_self _ ho (Obj.isFreed_of_fields (Obj.data_mapFields hd _)),(Obj.cls_mapFields ..).trans hc,by rw[Obj.data_mapFields hd];simp[rawInt]⟩
 refine wpAny_bind (wpAny_holding (wpAny_bind (wpAny_isOneOf_valiter (s:= {s with heap:=s.heap.update it (Obj.mapFields (·.setIfInBounds 1 (rawInt ((i:Int)+1))))}) a.typeIs ?_)));show wpAny _ _ (Builtin.Dict_items.isOneOf (Value.ref it) ["dict_valueiterator","dict_reversevalueiterator"] >>=_) _ _ _;refine wpAny_bind (wpAny_isOneOf_valiter (s:= {s with heap:=s.heap.update it (Obj.mapFields (·.setIfInBounds 1 (rawInt ((i:Int)+1))))}) a.typeIs ?_);show wpAny _ _ (pure es[i].val) _ _ _;exact wpAny_pure (wpAny_pure ⟨_,rfl,wpAny_pure (hQ _ a (Heap.SameBut.update ..))⟩)
theorem u5{i:Nat}{Q:Option Value->Shared->Prop}(hh:A.handled=none)(hit:s.heap.IsValIter it d i es.size ep)(hm:RawD s.heap d es ep)(hi:es.size<=i)(hQ:∀h',Heap.ExtBut it s.heap h'->Q none {s with heap:=h'}):wpAny (model prog w) A (pyNext (.ref it)) Q E s:=by
 obtain⟨o,ho,hc,hd⟩:=id hit;obtain⟨h,f,g,e⟩:=id hm;have c:Builtin.Dict_items.ownsTuple "dict_valueiterator"=false:=by decide
 unfold pyNext;refine wpAny_bind (wpAny_attempt (wpAny_callSpecial?_slot (name:=Str.ofString "__next__") hit.typeIs F.slot_dict_valueiterator_next (wpAny_call_entry F.slot_dict_valueiterator_next hit.typeIs F.entry_dict_valueiterator_next ?_ (F.args_dict_valueiterator_next_1 _))));refine wpAny_bind (wpAny_pure (wpAny_bind (wpAny_bind ?_)))
 first|refine wpAny_bind (wpAny_typeNameOfWhole_valiter hit.typeIs (wpAny_pure (wpAny_bind (wpAny_fieldsOf ho hd ?_))))|refine wpAny_bind (wpAny_typeNameOf_valiter hit.typeIs (wpAny_pure (wpAny_bind (wpAny_fieldsOf ho hd ?_))))
 simp only[c,Ag,if_false];show wpAny _ _ (if (Value.ref d==Value.none)=true then _ else _) _ _ s;rw[if_neg (show¬((Value.ref d==Value.none)=true)from zo)];refine wpAny_bind (wpAny_pure (wpAny_bind (wpAny_dictEntries f e ?_)));rw[if_neg (by simp)];refine wpAny_bind (wpAny_pure (wpAny_bind (wpAny_dictEpoch f e ?_)));rw[if_neg (by simp)];refine wpAny_pure ?_
 simp only[show¬((i:Int) < 0)from by omega,if_false,Ad,Array.getElem?_eq_none hi];refine wpAny_bind ?_
 first|refine wpAny_bind (wpAny_typeNameOfWhole_valiter hit.typeIs (wpAny_pure ?_))|refine wpAny_bind (wpAny_typeNameOf_valiter hit.typeIs (wpAny_pure (A:=A.in1) ?_))
 show wpAny _ _ (setField (.ref it) 0 .none >>=_) _ _ s;refine wpAny_bind (wpAny_setField ho hd (by simp) ?_)
 show wpAny _ _ (newExc (.type "StopIteration") [] >>=_) _ _ _;refine wpAny_bind ?_;simp only[newExc,newTuple];refine wpAny_bind (wpAny_newObj_type (wpAny_bind (m:=firstArgMember _ _) (wpAny_of_eq (a:=Value.none) (by first|rfl|(simp only[firstArgMember];rfl)) (wpAny_newObj_type ?_ (by size_fits)))) (by size_fits))
 simp only[raiseNew];refine wpAny_bind (wpAny_handled ?_);rw[show A.in1.handled=none from hh];refine wpAny_bind (wpAny_pure (wpAny_throw ?_));refine wpAny_bind (wpAny_isInstance (T:="StopIteration") (b:=true) ⟨_,Heap.get?_push_size _ rfl,rfl⟩ isSubtype_stop ?_);exact wpAny_pure (hQ _ (((Heap.SameBut.update ..).extBut.push _).push _))
end
theorem og{P:Program}{w:World}{K:PySem.W.Frag}{tg:Expr}{a it:Addr}{o:Obj}{u:HO}{es:Array DictEntry}{ep:Nat}{ks:List V}(hx:o.ExactDict)(hd:o.data= .dict es ep)(hl:ks.length=es.size)(hk:∀i (h:i < es.size),∃v,ks[i]?=some v/\RelV v es[i].val):
 Turn P w K tg (Itd a o u ks) [it] it (fun i h=>h.IsValIter it a i es.size ep) where
 mem:=by simp
 obj:=fun i h st b hb=>by
  have e:b=it:=by simpa using hb
  subst e;obtain⟨o,e,c,d⟩:=st;exact⟨o,e,fun v z=>by rw[d]at z;cases z⟩
 keep:=fun i h h' st k=>st.at fun o e=>k it (by simp) o e
 item:=by
  intro X l hw p hc i pins s σ H E I j st t;subst l hw p;obtain⟨ha,hi⟩:=t;have f:RawD s.heap a es ep:=⟨o,(I.hok a _ ha).1,hx,hd⟩;obtain⟨q,x,y,m,n,r⟩:=j it (by simp)
  obtain⟨v,hv,rv⟩:=hk i (by omega)
  refine p7 st f (by omega) fun h' g sb=>?_
  have I1:Inv X pins σ H {s with heap:=h'}:=I.turned (t':=s.toks) (fun b o hb e=>(sb.2 b hb).trans e) q x m n r;obtain⟨o',e,c,d⟩:=id g;exact⟨_,rfl,nI (s:= {s with heap:=h'}) e c d (by decide) ⟨v,H,I1,rv,⟨rfl,hv⟩,g,fun b hb=>(j b hb).1⟩⟩
 done:=by
  intro X l hw p hc i pins s σ H E I j st t;subst l hw p;obtain⟨ha,hi⟩:=t;have f:RawD s.heap a es ep:=⟨o,(I.hok a _ ha).1,hx,hd⟩;obtain⟨q,x,y,m,n,r⟩:=j it (by simp)
  exact u5 (I.ok.hd hc) st f (by omega) fun h' eb=>⟨rfl,I.turned (t':=s.toks) (fun b o hb e=>eb b o hb e) q x m n r⟩
 self:=fun A i s Q E st hq=>wpAny_pyIter_valiter st hq
section
variable{X:Cx}
noncomputable def jU(P:Program)(w:World)(K:PySem.W.Frag):V->List V->Hp->VK->Prop:=fun x vs H Q=>∃a kvs,x= .ref a/\vs= []/\DJ P w K H a kvs/\∀v,H v=none->Q (.ref v) (upd H v (bH v a))
noncomputable def ko(P:Program)(w:World)(K:PySem.W.Frag)(tl:TE):TI:=fun σ H R=>tl σ H fun x H1=>∃v a kvs,x= .ref v/\H1 v=some (bH v a)/\DJ P w K H1 a kvs/\∀o,R (Itd a o (dJ P w a kvs) (kvs.map fun e=>e.2.2)) (upd H1 a (.frz o (dJ P w a kvs)))
theorem k6:MtM X "dict.values" (jU X.prog X.w X.K):=by
 intro pins s σ H x vs u us Q I f rv h;obtain⟨a,kvs,rfl,rfl,d,q⟩:=h;cases f;cases rv.zero;obtain⟨z,hd,xs,c,o,es,ep,h1,h2,h3,g,i⟩:=fc I.hok I.kIn d;refine lB hd (⟨o,h1,h2,h3⟩:RawD s.heap a es ep) ?_;exact⟨.ref _,_,I.laid (t':=s.toks) (fun b ob e=>Heap.get?_push_of_some _ e) (z4 _) (m8 ⟨_,Heap.get?_push_size _ rfl,rfl,rfl⟩),rfl,q _ (I.hok.fresh (z4 _))⟩
theorem jV{tg l:Expr}{tl:TE}(hl:PE X l tl):PI X tg l (ko X.prog X.w X.K tl):=by
 intro pins s σ H R I h;refine thn (hl pins s σ H _ I h) fun v s1 ⟨x,H1,j,r1,t⟩=>?_;obtain⟨k,a,kvs,e,hv,d,q⟩:=t;subst e;cases r1;obtain⟨z,hd,xs,g,o,es,ep,h1,h2,h3,p,h5⟩:=fc j.hok j.kIn d;obtain⟨c,_⟩:=(show ObjOk X.prog X.w H1 s1.heap k (bH k a)from j.hok k _ hv);have m:RawD s1.heap a es ep:=⟨o,h1,h2,h3⟩
 have le:es.size=xs.length:=by
  have:=congrArg List.length p;simpa using this
 have kx:=Paired.length g;have lk:(kvs.map fun e=>e.2.2).length=es.size:=by rw[yY,kx,le]
 refine jM c m ?_;have n:=va j d.at_ h1;refine⟨s1.heap.objs.size,[s1.heap.objs.size],_,_,_,rfl,n.kept (t':=s1.toks) fun b o e=>Heap.get?_push_of_some _ e,og h2 h3 lk (fun i hi=>?_),⟨_,Heap.get?_push_size _ rfl,rfl,rfl⟩,fun b hb=>?_,q o⟩
 . have u:i < xs.length:=by omega
   have f:i < kvs.length:=by omega
   obtain⟨y,ey,r⟩:=paired_get g (yZ f);refine⟨(kvs[i]).2.2,by rw[z7,yZ f];rfl,?_⟩
   have e1:es[i]=entryOfKey (Tk.treeKind X.prog X.w) y:=by
    have:es.toList[i]?=(xs.map (entryOfKey (Tk.treeKind X.prog X.w)))[i]?:=by rw[p]
    rw[z7,ey,A5,zQ hi]at this;exact ze this
   rw[e1];exact r.2.2
 . have e:b=s1.heap.objs.size:=by simpa using hb
   subst e;exact n.fpOk (z4 _) (n.hok.fresh (z4 _))
theorem pi_valuesJ{tg l:Expr}{tl:TE}{P:Program}{w:World}{K:PySem.W.Frag}(hP:X.prog=P)(hw:X.w=w)(hK:X.K=K)(hl:PE X l tl):PI X tg l (ko P w K tl):=by
 subst hP hw hK;exact jV hl
end
noncomputable def pL(P:Program)(w:World)(K:PySem.W.Frag)(td:TE):TE:=fun σ H Q=>td σ H fun x H1=>jU P w K x [] H1 Q
theorem pe_valuesJ{X:Cx}{P:Program}{w:World}{K:PySem.W.Frag}{o:Expr}{td:TE}{apos cpos:Pos}(hP:X.prog=P)(hw:X.w=w)(hK:X.K=K)(ho:PE X o td)(hbase:attributeBase o "values" X.env (eval o X.env)=eval o X.env:=by rfl)(hline:(apos.endLine==cpos.line)=true:=by rfl):PE X (.Call (.Attribute o "values" apos) [] [] cpos) (pL P w K td):=by
 subst hP hw hK;intro pins s σ H Q I h;refine wpAny_Call_method0_late hbase hline (thn (ho pins s σ H _ I h) fun v s1 ⟨x,H1,e,r1,f⟩=>?_);obtain⟨a,kvs,rfl,_,d,q⟩:=id f;cases r1
 have c:s1.TypeIs (.ref a) "dict"/\∀b,Value.ref a= .ref b->∃ob,s1.heap.get? b=some ob/\ob.dict=none:=by
  obtain⟨_,_,xs,_,dd⟩:=fc e.hok e.kIn d;refine⟨dd.typeIs,fun b q=>?_⟩;cases q;obtain⟨ob,_,_,h1,h2,_⟩:=dd;exact⟨ob,h1,h2.2.1⟩
 exact⟨"dict","dict.values",PySem.F.plainAttrs_dict,PySem.F.slot_dict_values,PySem.F.type_dict_values,c.1,c.2,Calls.callWith_builtin rfl (PySem.evalArgs_none (k6 pins s1 σ H1 (.ref a) [] _ [] Q e rfl .nil f))⟩
theorem comp_valuesT{a D:Addr}{o:Obj}{u:HO}{ks:List V}{tc:TT}{te:TE}{rest:L2.St}{Q:VK}{H1:Hp}(Pv:Nat->List V->Hp->Prop)(h0:Pv 0 [] (upd H1 D (.lst [])))(hl:∀i acc H,Pv i acc H->H a=some (.frz o u))(hs:∀i x acc H,i < ks.length->ks[i]?=some x->Pv i acc H->tc (some x::rest) H fun b H5=>if b=true then te (some x::rest) H5 (CompN ks.length i D acc Pv)else CompS ks.length i acc Pv H5)(hd:∀acc H,Pv ks.length acc H->Q (.ref D) H):ip (Itd a o u ks) D tc te rest Q H1:=by
 refine⟨fun i m acc H=>m=ks.length - i/\i<=ks.length/\Pv i acc H,⟨ks.length,by simp,zr _,h0⟩,?_⟩
 rintro i m acc H ⟨rfl,hi,p⟩;by_cases c:i < ks.length
 . refine .inr ⟨⟨hl i acc H p,c⟩,fun x H' y=>⟨ext1,?_⟩⟩;obtain⟨rfl,d⟩:=y;exact hs i x acc _ c d p
 . have e:i=ks.length:=by omega
   subst e;exact .inl ⟨⟨hl _ acc H p,z4 _⟩,hd acc H p⟩
end Dj
namespace K39
open PySem L2 Mth Tre Wd Su
theorem kTT(K:PySem.W.Frag):PySem.W.kitOne K (.type "tuple") (.type "tuple")=some true:=by kernel_rfl
theorem kII(K:PySem.W.Frag):PySem.W.kitOne K (.type "int") (.type "int")=some true:=by kernel_rfl
theorem kIB(K:PySem.W.Frag):PySem.W.kitOne K (.type "int") (.type "bool")=some false:=by kernel_rfl
theorem w9{us vs:List Tr}(ty:∀t∈us,Ty .tm t)(pm:us.Perm vs)(h1:∀(i j:Nat) (t u:Tr),i<=j->us[i]?=some t->us[j]?=some u->ltT u t=false)(h2:∀(i j:Nat) (t u:Tr),i<=j->vs[i]?=some t->vs[j]?=some u->ltT u t=false):us=vs:=by
 refine List.Perm.eq_of_pairwise (le:=fun a b=>ltT b a=false) (fun a b ma mb e1 e2=>?_) ?_ ?_ pm
 . cases q:eqT a b with
   |true=>exact pE (ty a ma) (ty b (pm.mem_iff.mpr mb)) q
   |false=>
    have:=vH e1 q;rw[e2]at this;cases this
 . rw[A6];exact fun i j hi c d=>h1 i j _ _ (by omega) (yZ hi) (yZ c)
 . rw[A6];exact fun i j hi c d=>h2 i j _ _ (by omega) (yZ hi) (yZ c)
theorem lj{p q:Fr}(h1:0 < p.2)(h2:0 < q.2):p.1*q.2 < q.1*p.2↔rv p < rv q:=by
 have h:=yB (p:=q) (q:=p) h2 h1;rw[<-Rat.not_le,<-h];omega
theorem wg{p q:Fr}(h1:0 < p.2)(h2:0 < q.2):p.1*q.2=q.1*p.2↔rv p=rv q:=by
 have a:=lj h1 h2;have b:=lj h2 h1;constructor
 . intro e;have n1:¬rv p < rv q:=fun z=>by have:=a.mpr z;omega
   have n2:¬rv q < rv p:=fun z=>by have:=b.mpr z;omega
   exact Rat.le_antisymm (Rat.not_lt.mp n2) (Rat.not_lt.mp n1)
 . intro e;have n1:¬p.1*q.2 < q.1*p.2:=fun z=>by have:=a.mp z;rw[e]at this;exact Rat.lt_irrefl this
   have n2:¬q.1*p.2 < p.1*q.2:=fun z=>by have:=b.mp z;rw[e]at this;exact Rat.lt_irrefl this
   omega
theorem gy{n:Nat}:∀ {ts:List Tr},(∀t∈ts,t.pure/\t.depth<=n)->Trs.pure ts/\Trs.depth ts<=n
 | [],_=>⟨by unfold Trs.pure;trivial,by unfold Trs.depth;omega⟩
 |t::ts,h=>by
  obtain⟨a,b⟩:=gy fun u m=>h u (z5 _ m);obtain⟨c,d⟩:=h t z6;refine⟨?_,?_⟩
  . unfold Trs.pure;exact⟨c,a⟩
  . unfold Trs.depth;omega
theorem vc(f:Fr):Trs.pure [Tr.int f.1,Tr.int f.2]/\Trs.depth [Tr.int f.1,Tr.int f.2]<=2:=gy fun t m=>by
 simp only[zc,zy,or_false]at m;rcases m with rfl|rfl
 . exact⟨by unfold Tr.pure;trivial,by unfold Tr.depth;omega⟩
 . exact⟨by unfold Tr.pure;trivial,by unfold Tr.depth;omega⟩
section
variable{P:Program}{w:World}{K:PySem.W.Frag}{mg:Str->Option Value}{base:Heap}{T0:Addr}
def mw:Sp:=fun vs H Q _=>∃(r:Addr) (f:Fr) (b:Nat),vs= [.ref r]/\H r=some (.tup [.int f.1, .int f.2])/\Sh f/\Gf b f/\b<=8000/\∀H',Same H H'->Q (.bl true) H'
theorem scIf:FnScope ["_law_one"] ["_law_one"] (ah qN):= .of
theorem wZ{f:Addr}{fd:FuncData}(F:Fun K "_law_is_fraction" "_law_is_fraction" qN f fd)(B:Blt mg)(zL:Cl P w K mg base 1 "_law_least" ["_law_top","_law_bottom"] gJ):FnOk P w K mg base CX0 2 f fd ["_law_one"] mw:=by
 refine F.okb scIf fun vs H Q E h=>?_;refine hZq fun q_ e_=>?_;obtain⟨r,f,b,rfl,a,sh,gf,m,k⟩:=h;subst e_;refine⟨rfl,fun l A outer s hr=>?_⟩;have e:=hr.units;have d:=zg (Ac (show 50<=64 by decide) _) e
 refine⟨_,ad (bG (PW.pt (dU (e9 (cD (av (r:=rIsi K) cW rfl B.isi aU (a0 (pv 0) (a0 (df (v:= .ty "tuple") rfl B.tu PyProof.Rows.boot_tuple rfl) aa)))))
  (dU (ax iF (av ar rfl B.le PySem.boot_len (a0 (pv 0) aa)) a9 (ay _))
  (dU (e9 (cD (av (r:=rIsi K) cW rfl B.isi aU (a0 (ao aw (pv 0) a9 fun _ _=>rfl) (a0 (df (v:= .ty "int") rfl B.it PyProof.Rows.boot_int rfl) aa)))))
  (fw (e9 (cD (av (r:=rIsi K) cW rfl B.isi aU (a0 (ao aw (pv 0) a9 fun _ _=>rfl) (a0 (df (v:= .ty "int") rfl B.it PyProof.Rows.boot_int rfl) aa)))))))))) (ai (az eV)) aO)
  (ai (az (dg (cf cr (ao aw (pv 0) a9 fun _ _=>rfl) a9 (ay _)) (dg (cf (wB d) (ak zL hr (a0 (ao aw (pv 0) a9 fun _ _=>rfl) (a0 (ao aw (pv 0) a9 fun _ _=>rfl) aa))) (pv 0) (ay _))
   (dA (wu (av (r:=rIsi K) cW rfl B.isi aU (a0 (ao aw (pv 0) a9 fun _ _=>rfl) (a0 (df (v:= .ty "bool") rfl B.bo PyProof.Rows.boot_bool rfl) aa))))))))),?_⟩
 refine⟨_,rfl, .ref r, .ty "tuple",_,true,rfl, .of (.tup a), .inl ⟨rfl,kTT K⟩,_,rfl,?_⟩;refine iteF ?_;refine⟨_,rfl,r,_,rfl, .inr (SqT.of a),rfl,_,rfl,?_⟩;refine ite2 (fun c=>absurd c (by simp)) fun _=>?_
 refine⟨_,rfl,r,_,0, .int f.1,rfl,rfl,SqT.of a,rfl, .int f.1, .ty "int",_,true,rfl, .of (.int _), .inl ⟨rfl,kII K⟩,_,rfl,?_⟩;refine iteF ?_;refine⟨_,rfl,r,_,1, .int f.2,rfl,rfl,SqT.of a,rfl, .int f.2, .ty "int",_,true,rfl, .of (.int _), .inl ⟨rfl,kII K⟩,_,rfl,?_⟩;refine iteF (cC ?_);refine⟨_,rfl,r,_,1, .int f.2,rfl,rfl,SqT.of a,rfl,f.2,0,rfl,rfl,_,rfl,?_⟩;rw[decide_eq_true sh.1];refine iteT ?_;refine⟨_,rfl,r,_,0, .int f.1,rfl,rfl,SqT.of a,rfl,_,rfl,r,_,1, .int f.2,rfl,rfl,SqT.of a,rfl,f.1,f.2,rfl,sh.1,cJ (gf.bot.big m) (by have:=sh.1;omega),fun q H1 j e1=>?_⟩
 have g:low f.1 f.2=f:=lu (e5 sh.1) sh (by rw[gP sh.1];rfl)
 rw[g]at e1;have s1:Same H H1:=by rw[e1];exact ae j
 have hq:H1 q=some (.tup [.int f.1, .int f.2]):=by rw[e1];exact a8
 obtain⟨i,dp⟩:=vc f;refine⟨_,rfl,[Tr.int f.1,Tr.int f.2],[Tr.int f.1,Tr.int f.2],aP hq,aP (s1 _ _ a), .inl i,by omega,?_⟩
 rw[eqTs_refl];refine⟨_,rfl,?_⟩;refine iteT ?_;exact⟨_,rfl,r,_,0, .int f.1,rfl,rfl,SqT.of (s1 _ _ a),rfl, .int f.1, .ty "bool",_,false,rfl, .of (.int _), .inl ⟨rfl,kIB K⟩,_,rfl,k H1 s1⟩
end
end K39
namespace L2
open PySem PySem.Spec PyProof.Rows
theorem oV{K:PySem.W.Frag}{a D:Addr}{xs:List V}{tc:TT}{te:TE}{rest:L2.St}{Q:VK}{H1:Hp}(Pv:Nat->List V->Hp->Prop)(h0:Pv 0 [] (upd H1 D (.lst [])))(hl:∀i acc H,Pv i acc H->SqT K H a xs)(hs:∀i x acc H,i < xs.length->xs[i]?=some x->Pv i acc H->tc (some x::rest) H fun b H5=>if b=true then te (some x::rest) H5 (CompN xs.length i D acc Pv)else CompS xs.length i acc Pv H5)(hd:∀acc H,Pv xs.length acc H->Q (.ref D) H):ip (Itt K a) D tc te rest Q H1:=by
 refine⟨fun i m acc H=>m=xs.length - i/\i<=xs.length/\Pv i acc H,⟨xs.length,by simp,zr _,h0⟩,?_⟩
 rintro i m acc H ⟨rfl,hi,p⟩;by_cases c:i < xs.length
 . refine .inr ⟨⟨xs,xs[i],hl i acc H p,by simp[c]⟩,fun x H' y=>⟨ext1,?_⟩⟩
   obtain⟨e,y⟩:=y;subst e;exact hs i x acc _ c (y xs (hl i acc _ p)) p
 . have e:i=xs.length:=by omega
   subst e;exact .inl ⟨⟨xs,hl _ acc H p,z4 _⟩,hd acc H p⟩
theorem uf{r:R2}{ta tb:TE}{g:TG}{Z:Ends}{σ:L2.St}{H:Hp}(h:ta σ H fun x H1=>tb σ H1 fun y H2=>r x y H2 fun v H3=>g v σ H3 Z.nx):tAsg (tOp r ta tb) g Z σ H:=h
theorem on{r:R2}{rb:List V->Hp->VK->Prop}{te tb:TE}{Z:Ends}{σ:L2.St}{H:Hp}(h:te σ H fun v H1=>rb [v] H1 fun x H2=>tb σ H2 fun y H3=>r x y H3 Z.rt):tRet (tOp r (tCB rb (eI te tNil)) tb) Z σ H:=h
end L2
namespace K39
open PySem L2 Mth Tre Wd Su
structure Rep (us:List Tr) (G:Tr->Fr) (c:Nat) (x:Tr->Int) (D:Int):Prop where
 pos:0 < D
 lt:Lt2 c D
 x:∀t∈us,((x t:Int):Rat)=rv (G t)*(D:Rat)/\Lt2 c (x t)
theorem iJ(ns:List Int):5*mW ns+lq ns 8<=126/\mW ns<=21:=by
 unfold mW lq;split<;>omega
theorem Ub.scl{ns:List Int}{b:Bnd}(h:Ub ns b):(scl b).natAbs < 2^127:=by
 obtain⟨g,_⟩:=iJ ns
 obtain⟨e,_,_,c⟩:=eW (M:=2^mW ns) (fs:=b.ps.map (·.2)) (s:=1) (by decide) fun f a=>by
  obtain⟨p,mp,rfl⟩:=zJ.mp a;exact⟨(h.gq p mp).gf.pos,Aj (h.gq p mp).gf.bot⟩
 obtain⟨_,_,_,b4⟩:=eW (M:=2^lq ns 8) (fs:= [b.lim]) (s:=lcmF 1 (b.ps.map (·.2))) e fun f a=>by
  rw[zw.mp a];exact⟨h.gf.pos,Aj h.gf.bot⟩
 have l5:=h.l5;unfold K39.scl;rw[ki];refine zg b4 ?_;have one:(1:Int).natAbs=1:=rfl;rw[one,Nat.one_mul,yY,<-Nat.pow_mul]at c;have m1:mW ns*b.ps.length<=mW ns*5:=Nat.mul_le_mul_left _ l5;have d:=zh c (Am (by decide) m1)
 have e1: [b.lim].length=1:=rfl;rw[e1,Nat.pow_one];refine zg (As _ d) ?_;rw[<-Nat.pow_add];exact AB (by decide) (by omega)
theorem nmOk(x:String)(h:(decide (0 < (Str.ofString x).length)&&decide ((Str.ofString x).length<=8)&& (Str.ofString x).cps.toList.all fun c=>decide (97<=c/\c<=122))=true):Tw.Nm (Str.ofString x):=by
 simp only[Az,decide_eq_true_eq,List.all_eq_true]at h;exact⟨h.1.1,h.1.2,fun c m=>h.2 c m⟩
theorem yX:∀t∈T5,Fm.Gt t/\t.depth<=39/\(Tw.tmC t).length<=1000:=by
 have hx:=nmOk "x" (by decide +kernel)
 have hy:=nmOk "y" (by decide +kernel)
 have hz:=nmOk "zz" (by decide +kernel)
 have a:=nmOk "f" (by decide +kernel)
 have b:=nmOk "g" (by decide +kernel)
 have gf:∀n:Str,Tw.Nm n->Fm.Gt (tC' "f" [.tup [.str (Str.ofString "name"), .str n]]):=fun n hn=>by
  refine .ap _ _ a (by show 0 < 1;decide) (by show 1<=3;decide) ?_
  simp only[zc,zy,or_false];rintro t rfl;exact .nm _ hn
 intro t m;have dp:=(iW t m).2;refine⟨?_,by omega,?_⟩
 . simp only[T5,T4,t5,zX,AD,zc,zy,or_false]at m;rcases m with rfl|rfl|rfl|rfl|rfl
   . exact .nm _ hx
   . exact .nm _ hy
   . exact gf _ hx
   . exact .nm _ hz
   . refine .ap _ _ b (by decide) (by decide) ?_
     simp only[zc,zy,or_false];rintro t (rfl|rfl)
     . exact gf _ hy
     . exact .nm _ hx
 . simp only[T5,T4,t5,zX,AD,zc,zy,or_false]at m;rcases m with rfl|rfl|rfl|rfl|rfl<;>decide +kernel
theorem Ub.g71{ns:List Int}{b:Bnd}(h:Ub ns b):Gf 71 b.lim:=h.gf.mono (vI ns (by decide))
theorem Ub.gbd{ns:List Int}{b:Bnd}(h:Ub ns b):Gbd T5 71 b:=by
 refine⟨h.asc,fun p mp=>?_,h.g71,h.sh⟩;have a:=h.mem p mp;obtain⟨e,d,c⟩:=yX _ a;exact⟨⟨e,d,c,a⟩,(h.gq p mp).mono (by have:=(iJ ns).2;omega)⟩
theorem vp{ns:List Int}{b:Bnd}(h:Ub ns b){p:Pq}(m:p∈b.ps):Lt2 148 (wh p.2 (scl b)):=by
 have g:=h.gq p m;have t:=g.gf.top.mono (iJ ns).2;refine zg (m6 g.gf.pos) ?_;rw[show(148:Nat)=21+127 from rfl,Nat.pow_add];exact Nat.mul_lt_mul'' t h.scl
theorem n9{ns:List Int}{b:Bnd}(h:Ub ns b){c:Nat}{x:Tr->Int}:∀ {ps:List Pq},(∀p∈ps,p∈b.ps/\Lt2 c (x p.1))->Lt2 (148+c+ps.length) (linI (scl b) x ps)
 | [],_=>by
  show(0:Nat) < _;exact Nat.pow_pos (by decide)
 |p::r,hp=>by
  have d:=n9 h (c:=c) (x:=x) (ps:=r) fun q m=>hp q (z5 _ m);obtain⟨mp,a⟩:=hp p z6;simp only[linI];exact(((vp h mp).mul a).mono (n:=148+c+r.length) (by omega)).add d
theorem qW{ns:List Int}{b:Bnd}(ub:Ub ns b){us:List Tr}{G:Tr->Fr}{c:Nat}{x:Tr->Int}{D:Int}(hR:Rep us G c x D)(hus:∀p∈b.ps,p.1∈us):∀q f,q<=b.ps.length->Sh f->rv f=lin (gw us G) (b.ps.take q)->Gf (153+c) f:=by
 intro q f _ i e;obtain⟨h,sd,_⟩:=ub.gbd.scl_ok;have sub:∀p∈b.ps.take q,p∈b.ps:=fun p m=>At m
 have k:=jr (s:=scl b) (x:=x) (g:=gw us G) (D:=(D:Rat)) (ps:=b.ps.take q) (fun p mp=>⟨(ub.gq p (sub p mp)).gf.pos,sd p (sub p mp)⟩) fun p mp=>by
  have d:=hus p (sub p mp);unfold gw;rw[if_pos d];exact(hR.x p.1 d).1
 have lt:=n9 ub (c:=c) (x:=x) (ps:=b.ps.take q) fun p mp=>⟨sub p mp,(hR.x p.1 (hus p (sub p mp))).2⟩;have l5:=ub.l5;have a:=hR.pos;have j:0 < scl b*D:=Ax h a;refine Gf.low i (g:=(linI (scl b) x (b.ps.take q),scl b*D)) ⟨j,lt.mono (by rw[zG];omega),?_⟩ ?_
 . exact((Lt2.mul (show Lt2 127 (scl b)from ub.scl) hR.lt).mono (by omega):Lt2 (153+c) (scl b*D))
 . rw[e];have n1:=bp h;have n2:=bp a;show _=((linI (scl b) x (b.ps.take q):Int):Rat) / ((scl b*D:Int):Rat);rw[k,Rat.intCast_mul,Rat.div_def];grind
section
variable{P:Program}{w:World}{K:PySem.W.Frag}{mg:Str->Option Value}{base:Heap}{T0:Addr}
def kZ(P:Program)(w:World)(K:PySem.W.Frag):Sp:=fun vs H Q _=>∃(lb d:Addr) (xs:List V) (bs:List Bnd) (ns:List Int) (us:List Tr) (G:Tr->Fr) (x:Tr->Int) (D:Int),vs= [.ref lb, .ref d]/\H lb=some (.lst xs)/\TrsAt H xs (bs.map bdT)/\(∀b∈bs,Ub ns b)/\Dj.DAt P w K H d us G/\(∀t∈us,Sh (G t)/\Gf 3202 (G t))/\Rep us G 3202 x D/\TmIn us bs/\Met (gw us G) bs/\∀H' o kvs,ButT d H H'->H' d=some (.frz o (Dj.dJ P w d kvs))->Q (.bl true) H'
noncomputable def nNu:List Str:= ["_law_bounds_here","_law_numbers_here","_law_terms_here","_law_whole","_law_most","_law_strict","_law_value_here","_law_over"]
theorem scNu:FnScope nNu ["_law_bounds_here","_law_numbers_here"] (ah gO):= .of
theorem lF{f:Addr}{fd:FuncData}(F:Fun K "_law_numbers" "_law_numbers" gO f fd)(B:Blt mg)(zV:Cl P w K mg base 3 "_law_value" ["_law_whole","_law_numbers_here"] (mj P w K))(zI:Cl P w K mg base 2 "_law_is_fraction" ["_law_one"] mw):FnOk P w K mg base CX0 4 f fd ["_law_bounds_here","_law_numbers_here"] (kZ P w K):=by
 refine F.okb scNu fun vs H Q E h=>?_;refine hZq fun q_ e_=>?_;obtain⟨lb,d,xs,bs,ns,us,G,x,D,rfl,hl,hT,hU,hD,hG,hR,bw,bx,k⟩:=h;subst e_;refine⟨rfl,fun e7 A outer s hr=>?_⟩;have ew:Room 2 _:=hr.mono (by decide)
 have em:Room 3 _:=hr;have c4:=hr.units;have cp:=zg (Ac (show 50<=64 by decide) _) c4
 have a3:=zg (Ac (show 60<=64 by decide) _) c4
 have nd:=scNu.nd;have d3:(["_law_one"]:List Str).Nodup:=by decide +kernel
 have ee:(["_law_pair","_law_terms_here"]:List Str).Nodup:=by decide +kernel
 refine⟨_,ad (psR 2 nd (c5 aa))
  (ad (bX PassesOwn.never rfl (bf (pv 0)) (bh rfl (aq (pgA 3 nd) (aq (pgA 4 nd) (aq (pgA 5 nd) aV))))
   (ad (psA 6 nd (ak zV em (a0 (pv 3) (a0 (pv 1) aa))))
   (ad (psA 7 nd (am fA (am aR (ao aw (pv 6) a9 fun _ _=>rfl) (ao aw (pv 4) a9 fun _ _=>rfl)) (am aR (ao aw (pv 4) a9 fun _ _=>rfl) (ao aw (pv 6) a9 fun _ _=>rfl))))
   (ad (bG (PW.pt (dU (ax cr (pv 7) a9 (ay _)) (fw (PW.pt (dc (ax ci (pv 7) a9 (ay _)) (cZ (cD (pv 5)))))))) (ai (az eV)) aO)
   (ai (psR 2 nd (am dC (pv 2) (aQ (NC:= ["_law_pair","_law_terms_here"]) (mp:= [none,some 2]) rfl (dz (pv 3)) (fun _ _ _ _ _=>pgA 0 ee) (fun _ _ _ _ _=>cz (ax (r:=rIn false) (uF cp) (ao (r:=rIxT K) aw (pv 0) a9 fun _ _=>rfl) (pv 1) rfl)) (fun _ _ _ _ _=>ao (r:=rIxT K) aw (pv 0) a9 fun _ _=>rfl)))))))))
  (ad (bG (ax (rQ a3) (av (Dj.call_sJ (P:=P) (w:=w) (K:=K) rfl rfl rfl rfl a3) rfl B.so PyProof.Rows.boot_sorted (a0 (pv 1) aa)) (av (Dj.call_sH a3) rfl B.so PyProof.Rows.boot_sorted (a0 (pv 2) aa)) (ay _)) (ai (az eV)) aO)
  (ai (az (cf ci (av ar rfl B.le PySem.boot_len (a0 (aQ (NC:= ["_law_one"]) (mp:= [none]) rfl (Dj.pi_valuesJ (P:=P) (w:=w) (K:=K) rfl rfl rfl (Dj.pe_valuesJ (P:=P) (w:=w) (K:=K) rfl rfl rfl (pv 1))) (fun _ _ _ _ _=>pgA 0 d3) (fun _ _ _ _ _=>cz (e9 (cD (ak zI ew (a0 (pv 0) aa))))) (fun _ _ _ _ _=>pv 0)) aa)) a9 (ay _)))))),?_⟩
 have eR:(20000:Nat)<=sizeLine:=by decide +kernel
 have wl:=hT.len;rw[yY]at wl;have e4:T5.length=5:=rfl;refine⟨by show 0<=sizeLine;decide,fun L0 d6=>?_⟩
 have s0:=ae (o:= .lst []) d6;have bR:=a8 (H:=H) (a:=L0) (o:= .lst []);generalize upd H L0 (.lst [])=H0 at s0 bR ⊢;refine aj ?_
 try dsimp only
 refine⟨_,rfl,lb,rfl,⟨_,SqL.of (s0 _ _ hl)⟩,?_⟩
 refine eY (xs:=xs) (fun i σ H'=>Same H H'/\∃(L:Addr) (acc:List V) (ts:List Tr) (v3 v4 v5 v6 v7:Option V),σ= [some (.ref lb),some (.ref d),some (.ref L),v3,v4,v5,v6,v7]/\H' L=some (.lst acc)/\TrsAt H' acc ts/\ts.Nodup/\(∀t,t∈ts↔∃b∈bs.take i,∃p∈b.ps,p.1=t)/\∀t∈ts,t∈T5)
  ⟨s0,L0,[],[],none,none,none,none,none,rfl,bR, .nil,AK,(fun t=>by simp),fun t m=>by cases m⟩ (fun i σ H' _ p=>SqL.of (p.1 _ _ hl)) ?_ ?_
 . intro i y σ H1 ex z_;refine hZq fun q_ e_=>?_;obtain⟨sH,L,acc,ts,v3,v4,v5,v6,v7,rfl,hL,hA,a2,a4,h5⟩:=z_;obtain⟨u,eu,hu⟩:=hT.get' ex;rw[z7]at eu;obtain⟨b,eb,rfl⟩:=zf.mp eu;have mb:=za eb;have ub:=hU b mb;obtain⟨r,xw,xm,e0,rfl,d7,cd,er,bC⟩:=dN hu;obtain⟨au,ys,rfl,b8,dV⟩:=at_t cd;obtain⟨rm,rfl,bY⟩:=bU er;subst e_;unfold TrAt at bC;subst bC;have yl:=dV.len;rw[yY]at yl;have l5:=ub.l5;have ea:∀p∈b.ps,p.1∈us:=fun p mp=>(bw.2 p.1).mpr ⟨b,mb,p,mp,rfl⟩;have gl:=ub.g71;refine⟨r,_,rfl,SqT.of (sH _ _ d7),rfl,_,_,rfl,_,_,rfl,_,_,rfl,rfl,?_⟩;refine⟨_,rfl,_,rfl, .ref au,d,us,G,b.ps,21,3202,153+3202,rfl,cd.mono (Kd.of_same sH),hD.same sH,fun p m=>(ub.gq p m).mono (iJ ns).2,hG,by decide,qW ub hR ea,by decide,by decide,fun rt tt H2 s2 db eT eB a6=>?_⟩
   refine aj ?_
   try dsimp only
   have a1:=sH.trans s2;have t1:Big tt.1:=a6.top.big (by decide)
   have t2:Big tt.2:=a6.bot.big (by decide)
   have l1:Big b.lim.1:=gl.top.big (by decide)
   have l2:Big b.lim.2:=gl.bot.big (by decide)
   refine⟨_,rfl,rt,_,0, .int tt.1,rfl,rfl,SqT.of db,rfl,_,rfl,rm,_,1, .int b.lim.2,rfl,rfl,SqT.of (a1 _ _ bY),rfl,_,_,rfl,rfl,⟨t1,l2⟩,_,rfl,rm,_,0, .int b.lim.1,rfl,rfl,SqT.of (a1 _ _ bY),rfl,_,rfl,rt,_,1, .int tt.2,rfl,rfl,SqT.of db,rfl,_,_,rfl,rfl,⟨l1,t2⟩,_,_,rfl,rfl,?_⟩;refine aj ?_
   try dsimp only
   refine bP (fun σ' H'=>H'=H2/\σ'= [some (.ref lb),some (.ref d),some (.ref L),some (.ref au),some (.ref rm),some (.bl b.st),some (.ref rt),some (.int (tt.1*b.lim.2 - b.lim.1*tt.2))]) ?_ fun nx cb=>?_;rotate_left
   . have hm:=bx b mb;unfold MetB at hm;rw[<-eB]at hm;have e1:=lj (p:=tt) (q:=b.lim) a6.pos gl.pos;have e2:=wg (p:=tt) (q:=b.lim) a6.pos gl.pos
     have eg:¬0 < tt.1*b.lim.2 - b.lim.1*tt.2:=fun z=>by
      rcases hm with h|⟨h,_⟩
      . have:=e1.mpr h;omega
      . have:=e2.mpr h;omega
     refine⟨_,rfl,tt.1*b.lim.2 - b.lim.1*tt.2,0,rfl,rfl,_,rfl,?_⟩;refine ite2 (fun c=>absurd (of_decide_eq_true c) eg) (fun _=>?_);refine⟨_,rfl,rfl,_,rfl,?_⟩;refine ite2 (fun c=>?_) (fun _=>iteF (cb _ _ ⟨rfl,rfl⟩))
     have c0:tt.1*b.lim.2 - b.lim.1*tt.2=0:=by
      have:=of_decide_eq_true c;injection this
     have st:b.st=false:=by
      rcases hm with h|⟨_,h⟩
      . have:=e1.mpr h;omega
      . exact h
     refine⟨_,rfl,b.st,rfl,?_⟩;exact ite2 (fun c=>by rw[st]at c;cases c) (fun _=>cb _ _ ⟨rfl,rfl⟩)
   rintro σ' H' ⟨rfl,rfl⟩;have dH:=s2 _ _ hL;have dI:=hA.mono (Kd.of_same s2);have al:=hA.len
   have tl:ts.length<=5:=by
    have:=Fm.sub_len a2 h5;omega
   have bg:∀t∈T5,Ty .tm t/\t.depth<=7:=iW;refine uf ?_;refine⟨_,rfl,?_⟩;refine bW rfl ?_;refine⟨_,rfl,au,rfl,⟨_,SqT.of (a1 _ _ b8)⟩,fun M nM=>?_⟩;refine oV (xs:=ys) (fun j ac H3=>Same H' H3/\H3 M=some (.lst ac)/\∃g:List Tr,TrsAt H3 ac g/\g.length<=j/\(ts++g).Nodup/\(∀t,t∈g↔t∉ts/\∃p∈b.ps.take j,p.1=t)) ⟨ae nM,a8,[], .nil,z4 _,by rw[List.append_nil];exact a2,fun t=>by simp⟩ (fun j ac H3 p=>SqT.of (p.1 _ _ (a1 _ _ b8))) ?_ ?_
   . intro j y ac H3 hj ey z_;refine hZq fun q_ e_=>?_;obtain⟨s3,hM,g,aT,ul,a5,af⟩:=z_;obtain⟨t',b6,eo⟩:=(dV.mono (Kd.of_same (a1.trans s3))).get' ey;rw[z7]at b6;obtain⟨⟨tm,fr⟩,eq,rfl⟩:=zf.mp b6;have mp:=za eq;obtain⟨ty,dp⟩:=bg _ (ub.mem _ mp);dsimp only at ty dp;obtain⟨T',x1,y1,rfl,a7,bT,e6⟩:=bL eo;subst e_;have d9:=aT.len;refine⟨_,rfl,T',_,0,x1,rfl,rfl,SqT.of a7,rfl,_,rfl,L,acc,ts,tm,rfl, .inl (s3 _ _ dH),dI.mono (Kd.of_same s3),bT,fun u mu=>by have:=(bg u (h5 u mu)).2;omega,cX ty,_,rfl,?_⟩
     have d2:(ts.any fun u=>eqT u tm)=true↔tm∈ts:=by
      rw[List.any_eq_true];constructor
      . rintro⟨u,mu,e⟩;rw[<-pE (bg u (h5 u mu)).1 ty e];exact mu
      . intro m;exact⟨tm,m,i6 _⟩
     refine ite2 (fun c=>?_) fun c=>CompS.mk hj ⟨s3,hM,g,aT,by omega,a5,fun t=>?_⟩
     . have cI:tm∉ts:=fun m=>by
        rw[d2.mpr m]at c;cases c
       refine⟨_,rfl,T',_,0,x1,rfl,rfl,SqT.of a7,rfl,?_⟩
       have nu:tm∉g:=fun m=>by
        refine hZq fun q_ e_=>?_;obtain⟨_,p,l,e⟩:=(af tm).mp m;obtain⟨q,hq,bB⟩:=Ah l;subst e_;rw[zG]at hq;rw[List.getElem_take]at bB;have jl:j < b.ps.length:=(zb.mp eq).1;have lt:=A6.mp ub.asc q j (by omega) jl (by omega)
        have ej:b.ps[j]=(tm,fr):=(zb.mp eq).2;rw[ej,bB]at lt;exact mY lt e
       refine CompN.mk hj (by omega) hM ⟨aH nM s3,a8,g++ [tm],TrsAt.app (.cons (bT.mono (Kd.upd hM)) .nil) (aT.mono (Kd.upd hM)),by rw[zK];show g.length+1<=j+1;omega,?_,fun t=>?_⟩
       . rw[<-List.append_assoc]
         exact List.nodup_append.mpr ⟨a5,(by simp),fun a ma c mc=>by
          rw[zw.mp mc];rintro rfl;rcases zv.mp ma with ma|ma
          . exact cI ma
          . exact nu ma⟩
       . rw[aD eq,zv,af t];simp only[zv,zw];constructor
         . rintro(⟨n,p,l,e⟩|rfl)
           . exact⟨n,p, .inl l,e⟩
           . exact⟨cI,_, .inr rfl,rfl⟩
         . rintro⟨n,p,l|rfl,e⟩
           . exact .inl ⟨n,p,l,e⟩
           . exact .inr e.symm
     . have c3:tm∈ts:=by
        refine Classical.byContradiction fun n=>c ?_
        have:(ts.any fun u=>eqT u tm)=false:=by
         cases z:ts.any fun u=>eqT u tm with
         |false=>rfl
         |true=>exact absurd (d2.mp z) n
        rw[this];rfl
       rw[aD eq,af t];simp only[zv,zw];constructor
       . intro z_;refine hZq fun q_ e_=>?_;obtain⟨n,p,l,e⟩:=z_;subst e_;exact⟨n,p, .inl l,e⟩
       . rintro⟨n,p,l|rfl,e⟩
         . exact⟨n,p,l,e⟩
         . rw[<-e]at n;exact absurd c3 n
   . intro ac H3 z_;refine hZq fun q_ e_=>?_;obtain⟨s3,hM,g,aT,ul,a5,af⟩:=z_;subst e_;rw[yl,zx]at af;have d9:=aT.len;refine⟨L,M,acc,ac,rfl,rfl,s3 _ _ dH,hM,by omega,fun N nN=>?_⟩
     have sN:=ae (o:= .lst (acc++ac)) nN;refine aj ?_;refine⟨a1.trans (s3.trans sN),N,_,ts++g,_,_,_,_,_,rfl,a8,TrsAt.app (aT.mono (Kd.of_same sN)) (dI.mono (Kd.of_same (s3.trans sN))),a5,fun t=>?_,fun t m=>?_⟩
     . rw[zv,a4 t,af t,aD eb];simp only[zv,zw];constructor
       . rintro(⟨c,mc,h⟩|⟨_,h⟩)
         . exact⟨c, .inl mc,h⟩
         . exact⟨b, .inr rfl,h⟩
       . rintro⟨c,mc|rfl,h⟩
         . exact .inl ⟨c,mc,h⟩
         . by_cases z:t∈ts
           . exact .inl ((a4 t).mp z)
           . exact .inr ⟨z,h⟩
     . rcases zv.mp m with m|m
       . exact h5 t m
       . refine hZq fun q_ e_=>?_;obtain⟨_,p,l,rfl⟩:=(af t).mp m;subst e_;exact ub.mem p l
 . intro σ H1 z_;refine hZq fun q_ e_=>?_;obtain⟨sH,L,acc,ts,v3,v4,v5,v6,v7,rfl,hL,hA,a2,a4,h5⟩:=z_;rw[wl,zx]at a4;have same:∀t,t∈us↔t∈ts:=fun t=>by rw[bw.2 t,a4 t]
   have pm:us.Perm ts:=(List.perm_ext_iff_of_nodup bw.1 a2).mpr same
   have tl:ts.length<=5:=by
    have:=Fm.sub_len a2 h5;omega
   have ul:us.length<=5:=by rw[pm.length_eq];exact tl
   have al:=hA.len;have aC:∀t∈ts,Ty .tm t/\t.depth<=7:=fun t m=>iW t (h5 t m);have v:∀t∈us,Ty .tm t/\t.depth<=7:=fun t m=>aC t ((same t).mp m);obtain⟨d4,d5,ez⟩:=(hD.same sH).keys;subst e_;refine⟨_,rfl,d,d4,us,rfl,d5,ez,by omega,fun t m=>⟨Dj.tm_hs (v t m).1,cX (v t m).1,by have:=(v t m).2;omega⟩,fun t m u mu=>m9 30 (by have:=(v t m).2;omega) (v t m).1 (v u mu).1,fun D1 bj bi n1 bb a7 b7=>?_⟩
   have t1:=ae (o:= .lst bj) n1;refine⟨_,rfl,L,acc,ts,rfl,t1 _ _ hL,hA.mono (Kd.of_same t1),by omega,fun t m=>⟨Dj.tm_hs (aC t m).1,cX (aC t m).1,by have:=(aC t m).2;omega⟩,fun t m u mu=>m9 30 (by have:=(aC t m).2;omega) (aC t m).1 (aC u mu).1,fun D2 ws2 us2 n2 el eH cm=>?_⟩
   have t2:=ae (o:= .lst ws2) n2;obtain rfl:bi=us2:=w9 (fun t m=>(v t (bb.mem_iff.mp m)).1) (bb.trans (pm.trans el.symm)) b7 cm;have hok:=gy (n:=7) fun t m=>⟨cX (v t (bb.mem_iff.mp m)).1,(v t (bb.mem_iff.mp m)).2⟩;refine⟨D1,D2,bj,ws2,bi,bi,rfl,rfl,t2 _ _ a8,a8,a7.mono (Kd.of_same (t1.trans t2)),eH.mono (Kd.of_same t2), .inl hok.1,by have:=hok.2;omega,?_⟩
   rw[eqTs_refl];refine⟨_,rfl,?_⟩;refine iteF (cC ?_);have s3:=(sH.trans t1).trans t2;generalize upd (upd H1 D1 (.lst bj)) D2 (.lst ws2)=H3 at s3 ⊢
   try dsimp only
   refine on ?_;refine bW rfl ?_;obtain⟨kvs,dj,pr⟩:=(hD.same s3).ex;refine⟨_,rfl,d,kvs,rfl,rfl,dj,fun vw nv=>?_⟩;have sv:=ae (o:=bH vw d) nv;have d0:=dj.kd (Kd.of_same sv) (sv _ _ dj.at_);have d8:=Dj.en_mono (Kd.of_same sv) pr;refine⟨vw,d,kvs,rfl,a8,d0,fun o M nM=>?_⟩;have eL:Kd (upd H3 vw (bH vw d)) (upd (upd H3 vw (bH vw d)) d (.frz o (Dj.dJ P w d kvs))):=Dj.Kd.updJ d0.at_;have c2:=Dj.en_mono eL d8;have hF:=a8 (H:=upd H3 vw (bH vw d)) (a:=d) (o:= .frz o (Dj.dJ P w d kvs))
   have bF:ButT d H (upd (upd H3 vw (bH vw d)) d (.frz o (Dj.dJ P w d kvs))):=fun x u n e=>by
    rw[ag n];exact sv _ _ (s3 _ _ e)
   generalize upd (upd H3 vw (bH vw d)) d (.frz o (Dj.dJ P w d kvs))=H4 at nM c2 hF bF ⊢;refine Dj.comp_valuesT (fun i ac H'=>ac= []/\Same H4 H'/\H' M=some (.lst [])) ⟨rfl,ae nM,a8⟩ (fun i ac H' p=>p.2.1 _ _ hF) ?_ ?_
   . intro i y ac H' hi ex z_;refine hZq fun q_ e_=>?_;obtain⟨rfl,s4,hM⟩:=z_;rw[z7]at ex;obtain⟨⟨ek,eb,ev⟩,ec,rfl⟩:=zf.mp ex;obtain⟨t,et,e1,e2,e3⟩:=Dj.paired_get c2 ec;subst e_;dsimp only at e3 ⊢;refine hZq fun q_ e_=>?_;obtain⟨ef,rfl,bI⟩:=bU e3;obtain⟨eG,ed⟩:=hG t (za et);subst e_;refine⟨_,rfl,ef,G t,3202,rfl,s4 _ _ bI,eG,ed,by decide,fun H5 s5=>?_⟩
     refine⟨_,rfl,?_⟩;exact iteF (CompS.mk hi ⟨rfl,s4.trans s5,s5 _ _ hM⟩)
   . rintro ac H' ⟨rfl,s4,hM⟩;refine⟨M,[],rfl, .inl (SqL.of hM),rfl,?_⟩;exact k _ o kvs (fun x u n e=>s4 _ _ (bF x u n e)) (s4 _ _ hF)
end
end K39
namespace L2
open PySem PySem.Spec PyProof.Rows
theorem kT{r:R2}{rb:List V->Hp->VK->Prop}{te tb:TE}{Q:Bool->Hp->Prop}{σ:L2.St}{H:Hp}(h:te σ H fun v H1=>rb [v] H1 fun x H2=>tb σ H2 fun y H3=>r x y H3 fun z H4=>∃k,z= .bl k/\Q k H4):pM (tOp r (tCB rb (eI te tNil)) tb) σ H Q:=h
end L2
namespace K39
open PySem L2 Mth Tre Wd Su
def Ov(g:Int)(e:Nat)(r:Rat):Prop:=∃n:Int,r=(n:Rat) / (g:Rat)/\Lt2 e n
theorem Ov.mono{g:Int}{e e':Nat}{r:Rat}(h:Ov g e r)(he:e<=e'):Ov g e' r:=by
 obtain⟨n,a,b⟩:=h;exact⟨n,a,b.mono he⟩
theorem Ov.zero(g:Int)(e:Nat):Ov g e 0:=⟨0,by rw[Rat.div_def];show(0:Rat)=(0:Rat)*_;rw[Rat.zero_mul],by show(0:Nat) < _;exact Nat.pow_pos (by decide)⟩
theorem Ov.add{g:Int}{e e':Nat}{r s:Rat}(h:Ov g e r)(h':Ov g e' s)(he:e'<=e):Ov g (e+1) (r+s):=by
 obtain⟨n,rfl,b⟩:=h;obtain⟨m,rfl,c⟩:=h';refine⟨n+m,?_,b.add (c.mono he)⟩;rw[Rat.intCast_add,Rat.div_def,Rat.div_def,Rat.div_def];grind
theorem Ov.gf{g:Int}{e c:Nat}{f:Fr}(g0:0 < g)(hc:Lt2 c g)(he:c<=e)(sh:Sh f)(h:Ov g e (rv f)):Gf e f:=by
 obtain⟨n,a,b⟩:=h;exact Gf.low (g:=(n,g)) sh ⟨g0,b,hc.mono he⟩ (by rw[a];rfl)
structure Wr (bs:List Bnd) (wk:List Wt) (g:Int) (c:Nat):Prop where
 pos:0 < g
 lt:Lt2 c g
 k:∀k∈wk,∀b,bs[k.1]?=some b->∃z:Int,rv k.2=((z*scl b:Int):Rat) / (g:Rat)/\Lt2 c z
theorem jX{f:Fr}{x:Rat}{s z g:Int}{c n:Nat}(hf:0 < f.2)(d:f.2∣s)(hx:x=((z*s:Int):Rat) / (g:Rat))(lw:Lt2 n (wh f s))(lz:Lt2 c z):Ov g (n+c) (rv f*x):=by
 refine⟨wh f s*z,?_,lw.mul lz⟩;rw[hx,Rat.intCast_mul,Rat.intCast_mul,jL hf d,Rat.div_def,Rat.div_def];grind
theorem tZ{ns:List Int}{b:Bnd}(h:Ub ns b):Lt2 198 (wh b.lim (scl b)):=by
 have t:=h.g71.top;refine zg (m6 h.g71.pos) ?_;rw[show(198:Nat)=71+127 from rfl,Nat.pow_add];exact Nat.mul_lt_mul'' t h.scl
theorem addK_mem{ks:List Tr}{t u:Tr}:u∈Dj.addK ks t↔u∈ks\/u=t:=by
 unfold Dj.addK;split
 . rename_i m;exact⟨.inl,fun h=>h.elim id fun e=>e▸m⟩
 . rw[zv,zw]
structure Vf (g:Int) (e:Nat) (ks:List Tr) (G:Tr->Fr) (F:Tr->Rat):Prop where
 v:∀t∈ks,Sh (G t)/\rv (G t)=F t/\Ov g e (F t)
 z:∀t,t∉ks->F t=0
theorem Vf.mono{g:Int}{e e':Nat}{ks:List Tr}{G:Tr->Fr}{F:Tr->Rat}(h:Vf g e ks G F)(he:e<=e'):Vf g e' ks G F:=⟨fun t m=>by
 obtain⟨a,b,c⟩:=h.v t m
 exact⟨a,b,c.mono he⟩,h.z⟩
open Classical in
theorem Vf.put{g:Int}{e:Nat}{ks:List Tr}{G:Tr->Fr}{F F':Tr->Rat}{tm:Tr}{f:Fr}{r:Rat}(h:Vf g e ks G F)(sh:Sh f)(hf:rv f=F tm+r)(hr:Ov g e r)(hF:∀t,F' t=F t+if tm=t then r else 0):Vf g (e+1) (Dj.addK ks tm) (Dj.setG G tm f) F':=by
 refine⟨fun t m=>?_,fun t n=>?_⟩
 . by_cases d:t=tm
   . subst d
     have o:Ov g e (F t):=by
      by_cases i:t∈ks
      . exact(h.v t i).2.2
      . rw[h.z t i];exact Ov.zero g e
     unfold Dj.setG;rw[if_pos rfl,hF,if_pos rfl];exact⟨sh,hf,o.add hr (z4 _)⟩
   . have m':t∈ks:=by
      rcases addK_mem.mp m with m|m
      . exact m
      . exact absurd m d
     obtain⟨a,b,c⟩:=h.v t m';unfold Dj.setG;rw[if_neg d,hF,if_neg (fun z=>d z.symm),Rat.add_zero];exact⟨a,b,c.mono (by omega)⟩
 . have n1:t∉ks:=fun z=>n (addK_mem.mpr (.inl z));have n2:¬tm=t:=fun z=>n (addK_mem.mpr (.inr z.symm));rw[hF,if_neg n2,h.z t n1,Rat.add_zero]
theorem vq{bs:List Bnd}{pl:Nat}(h:pl < bs.length):bs[pl]?=some bs[pl]/\bdAt (bs.map ofB) pl=ofB bs[pl]:=⟨yZ h,fj (yZ h)⟩
theorem tV{bs:List Bnd}{wk:List Wt}(h:Wts bs wk):wk.length<=bs.length:=by
 have nd:(wk.map (·.1)).Nodup:=by
  rw[An,List.pairwise_map];exact h.asc.imp fun h z=>by omega
 have:=Fm.sub_len (U:=List.range bs.length) nd fun x m=>by
  obtain⟨k,mk,rfl⟩:=zJ.mp m;exact zZ.mpr (h.lt k mk)
 rw[yY,zY]at this;exact this
section
variable{P:Program}{w:World}{K:PySem.W.Frag}{mg:Str->Option Value}{base:Heap}{T0:Addr}
def pZ:Sp:=fun vs H Q _=>∃(lb l:Addr) (xs wv:List V) (bs:List Bnd) (ns:List Int) (wk:List Wt) (g:Int),vs= [.ref lb, .ref l]/\H lb=some (.lst xs)/\TrsAt H xs (bs.map bdT)/\(∀b∈bs,Ub ns b)/\bs.length<=8/\H l=some (.lst wv)/\TrsAt H wv (wk.map wtT)/\Wts bs wk/\Wr bs wk g 3202/\∀H',Same H H'->Q (.bl true) H'
noncomputable def nWe:List Str:= ["_law_bounds_here","_law_weights_here","_law_shares","_law_total","_law_strict","_law_k","_law_place","_law_weight","_law_term","_law_share_here"]
theorem scWe:FnScope nWe ["_law_bounds_here","_law_weights_here"] (ah gN):= .of
theorem lE{f:Addr}{fd:FuncData}(F:Fun K "_law_weights" "_law_weights" gN f fd)(B:Blt mg)(zI:Cl P w K mg base 2 "_law_is_fraction" ["_law_one"] mw)(zT:Cl P w K mg base 2 "_law_times" ["_law_one","_law_other"] eO)(zP:Cl P w K mg base 2 "_law_plus" ["_law_one","_law_other"] eP):FnOk P w K mg base CX0 3 f fd ["_law_bounds_here","_law_weights_here"] pZ:=by
 refine F.okb scWe fun vs H Q E h=>?_;refine hZq fun q_ e_=>?_;obtain⟨lb,l,xs,wv,bs,ns,wk,g,rfl,hl,hT,hU,b8,hw,hW,aC,hR,k⟩:=h;subst e_;refine⟨rfl,fun hK A outer s hr=>?_⟩;have bi:Room 2 _:=hr;have er:=hr.units;have f1:=zg (Ac (show 1<=64 by decide) _) er
 have cI:=zg (Ac (show 30<=64 by decide) _) er
 have nd:=scWe.nd;have fv:(["_law_one"]:List Str).Nodup:=by decide +kernel
 refine⟨_,ad (psA 2 nd (Dj.pe_newJ (P:=P) (w:=w) rfl rfl))
  (ad (psA 3 nd (aY (a0 a9 (a0 a9 aa))))
  (ad (psA 4 nd eV)
  (ad (bX PassesOwn.never rfl (bZ rfl B.ra (a0 (av ar rfl B.le PySem.boot_len (a0 (pv 1) aa)) aa)) (pgA 5 nd)
   (ad (fz (ao aA (pv 1) (pv 5) fun _ _=>rfl) (bh (n:=2) rfl (aq (pgA 6 nd) (aq (pgA 7 nd) aV))))
   (ad (bG (PW.pt (dU (e9 (cD (ak zI bi (a0 (pv 7) aa)))) (dU (ax iG (ao aw (pv 7) a9 fun _ _=>rfl) a9 (ay _)) (fw (PW.pt (dc (ax cr (pv 5) a9 (ay _)) (cZ (ax yH (ao aw (ao aA (pv 1) (am fA (pv 5) a9) fun _ _=>rfl) a9 fun _ _=>rfl) (pv 6) (ay _))))))))) (ai (az eV)) aO)
   (ad (bX PassesOwn.never rfl (dz (ao aw (ao aA (pv 0) (pv 6) fun _ _=>rfl) a9 fun _ _=>rfl)) (bh rfl (aq (pgA 8 nd) (aq (pgA 9 nd) aV)))
    (ai (Dj.ps_putJ (P:=P) (w:=w) (K:=K) rfl rfl rfl cI (pv 2) (pv 8) (ak zP bi (a0 (Dj.pe_getJ (P:=P) (w:=w) (K:=K) rfl rfl rfl cI (pv 2) (pv 8) (aY (a0 a9 (a0 a9 aa))) ⟨rfl,rfl,rfl,rfl⟩) (a0 (ak zT bi (a0 (pv 9) (a0 (pv 7) aa))) aa))) rfl)))
   (ad (psA 3 nd (ak zP bi (a0 (pv 3) (a0 (ak zT bi (a0 (ao aw (ao aA (pv 0) (pv 6) fun _ _=>rfl) a9 fun _ _=>rfl) (a0 (pv 7) aa))) aa))))
   (ai (psA 4 nd (vF (pv 4) (dA (ao aw (ao aA (pv 0) (pv 6) fun _ _=>rfl) a9 fun _ _=>rfl))))))))))
  (ad (bG (PW.pt (dU (ax ci (av ar rfl B.le PySem.boot_len (a0 (pv 1) aa)) a9 (ay _)) (fw (ax cr (av ar rfl B.le PySem.boot_len (a0 (aQ (NC:= ["_law_one"]) (mp:= [none]) rfl (Dj.pi_valuesJ (P:=P) (w:=w) (K:=K) rfl rfl rfl (Dj.pe_valuesJ (P:=P) (w:=w) (K:=K) rfl rfl rfl (pv 2))) (fun _ _ _ _ _=>pgA 0 fv) (fun _ _ _ _ _=>cz (ax (r:=rNeP K) (rP f1) (pv 0) (aY (a0 a9 (a0 a9 aa))) (ay _))) (fun _ _ _ _ _=>pv 0)) aa)) a9 (ay _))))) (ai (az eV)) aO)
  (ai (az (vF (cf iG (ao aw (pv 3) a9 fun _ _=>rfl) a9 (ay _)) (dA (dg (cf ci (ao aw (pv 3) a9 fun _ _=>rfl) a9 (ay _)) (dA (pv 4))))))))))),?_⟩
 have hA:(20000:Nat)<=sizeLine:=by decide +kernel
 have wl:=hW.len;rw[yY]at wl;have w8:wk.length<=8:=zh (tV aC) b8;have bl:=hT.len;rw[yY]at bl;intro D nD;have s1:=ae (o:=Dj.dJ P w D []) nD;have d0:Dj.DAt P w K (upd H D (Dj.dJ P w D [])) D [] (fun _=>zero):=⟨⟨[],⟨a8,fun p m=>(by cases m)⟩, .nil⟩,fun t m=>(by cases m),AK⟩
 generalize upd H D (Dj.dJ P w D [])=H1 at s1 d0 ⊢;refine aj ?_
 try dsimp only
 refine⟨two,fun z0 g3=>?_⟩;have em:=ae (o:= .tup [.int 0, .int 1]) g3;have eo:=a8 (H:=H1) (a:=z0) (o:= .tup [.int 0, .int 1]);have d1:=d0.same em;have s2:=s1.trans em;generalize upd H1 z0 (.tup [.int 0, .int 1])=H2 at s2 d1 eo ⊢;refine aj ?_
 try dsimp only
 refine aj ?_
 try dsimp only
 have g0:=hR.pos;refine⟨_,rfl,l,wv,rfl, .inl (SqL.of (s2 _ _ hw)),(wv.length:Int),rfl,by omega,by omega,?_⟩
 rw[show((wv.length:Int)).toNat=wk.length by omega]
 refine cV (n:=wk.length) (fun i σ H'=>Same H H'/\∃(ks:List Tr) (G:Tr->Fr) (rt:Addr) (tt:Fr) (st:Bool) (v5 v6 v7 v8 v9:Option V),σ= [some (.ref lb),some (.ref l),some (.ref D),some (.ref rt),some (.bl st),v5,v6,v7,v8,v9]/\Dj.DAt P w K H' D ks G/\(∀t∈ks,t∈T5)/\Vf g (3401+6*i) ks G (fun t=>Su.tot t (aW (bs.map ofB) (wk.take i)))/\H' rt=some (.tup [.int tt.1, .int tt.2])/\Sh tt/\rv tt=totR (bs.map ofB) (wk.take i)/\Ov g (3401+6*i) (rv tt)/\(st=true↔∃k∈wk.take i,(bdAt (bs.map ofB) k.1).st=true))
  ⟨s2,[],_,z0,zero,false,_,_,_,_,_,rfl,d1,(fun t m=>by cases m),⟨fun t m=>(by cases m),fun t _=>by rw[Ak];rfl⟩,eo,eQ,by rw[Ak];exact cy,by rw[cy];exact Ov.zero _ _,by simp⟩ ?_ ?_
 . intro i σ H3 hi z_;refine hZq fun q_ e_=>?_;obtain⟨s3,ks,G,rt,tt,st,v5,v6,v7,v8,v9,rfl,d,u,hV,bR,a6,bj,dI,bC⟩:=z_;subst e_;rw[Ap];refine aj ?_
   try dsimp only
   have ek:wk[i]?=some wk[i]:=yZ hi;refine hZq fun q_ e_=>?_;obtain⟨x,ex,hx⟩:=hW.get (i:=i) (t:=wtT wk[i]) (by rw[z7,ek];rfl)
   have mk:=za ek;have dV:=aC.lt _ mk;have d7:=aC.pos _ mk;have bb:=aC.sh _ mk;have d3:=hR.k _ mk
   have a4:0 < i->∃q:Wt,wk[i - 1]?=some q/\q.1 < wk[i].1:=fun h0=>by
    have:=A6.mp aC.asc (i - 1) i (by omega) hi (by omega)
    exact⟨wk[i - 1],yZ (by omega),this⟩
   have bI:=aD ek;generalize wk[i]=kk at ek hx mk dV d7 bb d3 a4 bI;obtain⟨pl,fr⟩:=kk;dsimp only at dV d7 bb d3 a4;obtain⟨r,x1,y1,rfl,g4,a7,dH⟩:=bL hx;obtain⟨rf,rfl,bY⟩:=bU dH;unfold TrAt at a7;subst a7;obtain⟨eb,bg⟩:=vq dV;obtain⟨xb,d4,ez⟩:=hT.get (i:=pl) (t:=bdT bs[pl]) (by rw[z7,eb];rfl)
   have ub:=hU _ (za eb);obtain⟨zk,bF,c4⟩:=d3 _ eb;generalize bs[pl]=b at eb bg ez ub bF;obtain⟨rb,xw,xm,hC,rfl,d5,f0,gr,d8⟩:=dN ez;obtain⟨au,ys,rfl,ec,e0⟩:=at_t f0;obtain⟨rm,rfl,fC⟩:=bU gr;unfold TrAt at d8;subst d8;have yl:=e0.len;rw[yY]at yl;have l5:=ub.l5;obtain⟨hG,fM,f2⟩:=ub.gbd.scl_ok;subst e_;have gn:Lt2 127 (scl b):=ub.scl;have gk:Gf 3329 fr:=Gf.low (g:=(zk*scl b,g)) bb ⟨g0,(c4.mul gn).mono (by decide),hR.lt.mono (by decide)⟩ (by rw[bF];rfl)
   refine⟨_,rfl,_,rfl,l,wv,(i:Int), .ref r,rfl,rfl,SqL.of (s3 _ _ hw),aI ex,?_⟩;refine⟨r,_,rfl,SqT.of (s3 _ _ g4),rfl,_,_,rfl,_,_,rfl,rfl,?_⟩
   try dsimp only
   refine bP (fun σ' H'=>σ'= [some (.ref lb),some (.ref l),some (.ref D),some (.ref rt),some (.bl st),some (.int (i:Int)),some (.int (pl:Int)),some (.ref rf),v8,v9]/\Same H3 H') ?_ fun nx ed=>?_;rotate_left
   . refine⟨_,rfl,rf,fr,3329,rfl,s3 _ _ bY,bb,gk,by decide,fun H4 aT=>?_⟩
     have s4:=s3.trans aT;refine⟨_,rfl,?_⟩;refine iteF ?_;refine⟨_,rfl,rf,_,0, .int fr.1,rfl,rfl,SqT.of (s4 _ _ bY),rfl,fr.1,1,rfl,rfl,_,rfl,?_⟩;refine ite2 (fun c=>absurd (of_decide_eq_true c) (by omega)) fun _=>?_
     refine⟨_,rfl,(i:Int),0,rfl,rfl,_,rfl,?_⟩;refine ite2 (fun c=>?_) fun _=>iteF (ed _ _ ⟨rfl,aT⟩);have i0:=of_decide_eq_true c;refine hZq fun q_ e_=>?_;obtain⟨⟨pq,fq⟩,eq,lq⟩:=a4 (by omega)
     obtain⟨x',ex',hx'⟩:=hW.get (i:=i - 1) (t:=wtT (pq,fq)) (by rw[z7,eq];rfl)
     obtain⟨r',hJ,hN,rfl,fg,b6,hB⟩:=bL hx';subst e_;unfold TrAt at b6;subst b6;refine⟨_,rfl,_,rfl,_,1,rfl,rfl,l,wv,(i:Int) - 1, .ref r',rfl,rfl,SqL.of (s4 _ _ hw),by rw[show(i:Int) - 1=((i - 1:Nat):Int)by omega];exact aI ex',r',_,0, .int (pq:Int),rfl,rfl,SqT.of (s4 _ _ fg),rfl,_,rfl,_,_,rfl,rfl,_,rfl,?_⟩
     refine ite2 (fun c=>absurd (of_decide_eq_true c) (by dsimp only at lq;omega)) fun _=>ed _ _ ⟨rfl,aT⟩
   rintro σ' H4 ⟨rfl,aT⟩;have s4:=s3.trans aT;have eu:=d.same aT;have el:=aT _ _ bR;refine⟨_,rfl,_,rfl,lb,xs,(pl:Int), .ref rb,rfl,rfl,SqL.of (s4 _ _ hl),aI d4,rb,_,0, .ref au,rfl,rfl,SqT.of (s4 _ _ d5),rfl,au,rfl,⟨_,SqT.of (s4 _ _ ec)⟩,?_⟩
   refine jy (xs:=ys) (fun q σ H'=>Same H H'/\∃(ks:List Tr) (G:Tr->Fr) (v8 v9:Option V),σ= [some (.ref lb),some (.ref l),some (.ref D),some (.ref rt),some (.bl st),some (.int (i:Int)),some (.int (pl:Int)),some (.ref rf),v8,v9]/\Dj.DAt P w K H' D ks G/\(∀t∈ks,t∈T5)/\Vf g (3401+6*i+q) ks G (fun t=>Su.tot t (aW (bs.map ofB) (wk.take i))+Su.tot t (b.ps.take q)*rv fr)/\H' rt=some (.tup [.int tt.1, .int tt.2]))
    ⟨s4,ks,G,v8,v9,rfl,eu,u,by
     have e:(fun t=>Su.tot t (aW (bs.map ofB) (wk.take i))+Su.tot t (b.ps.take 0)*rv fr)=fun t=>Su.tot t (aW (bs.map ofB) (wk.take i)):=by
      funext t;rw[Ak];show _+(0:Rat)*_=_;rw[Rat.zero_mul,Rat.add_zero]
     rw[e]
     exact hV,el⟩ (fun i σ H' _ p=>SqT.of (p.1 _ _ ec)) ?_ ?_
   . intro q y σ H5 ey z_;refine hZq fun q_ e_=>?_;obtain⟨s5,ks,G,v8,v9,rfl,d,u,hV,af⟩:=z_;obtain⟨t',d9,gp⟩:=e0.get' ey;rw[z7]at d9;obtain⟨⟨tm,sf⟩,eq,rfl⟩:=zf.mp d9;have mp:=za eq;have ql:q < b.ps.length:=(zb.mp eq).1;have mT:=ub.mem _ mp;obtain⟨ty,dp⟩:=iW _ mT;have gq:=ub.gq _ mp;have lw:=vp ub mp;have d6:=fM _ mp;dsimp only at mT ty dp lw d6;have c3:=gq.gf.mono (iJ ns).2;have eH:=gq.sh;dsimp only at c3 eH;obtain⟨T',xx,yy,rfl,gb,a7,dH⟩:=bL gp;obtain⟨rs,rfl,g1⟩:=bU dH;obtain⟨bt,rfl⟩:=Dj.tm_ref ty a7;subst e_;have oq:=jX c3.pos d6 bF lw c4;refine⟨T',_,rfl,SqT.of (s5 _ _ gb),rfl,_,_,rfl,_,_,rfl,rfl,?_⟩;have kl:ks.length<=5:=Fm.sub_len d.nd u;refine hZq fun q_ e_=>?_;obtain⟨kvs,j,pr⟩:=d.ex;have hL:=Paired.length pr;obtain⟨gS,eB⟩:=Dj.en_val pr (fun t m=>(d.ty t m).1) ty;subst e_;refine⟨_,rfl,D,kvs,rfl,j,_,rfl,two,fun z nz=>?_⟩;have sz:=ae (o:= .tup [.int 0, .int 1]) nz;refine⟨bt,Dj.ktL tm,rfl,j.kd (Kd.of_same sz) (sz _ _ j.at_),Dj.key_tm ty dp (a7.mono (Kd.of_same (s5.trans sz))),?_⟩;have gs:=a8 (H:=H5) (a:=z) (o:= .tup [.int 0, .int 1]);refine hZq fun q_ e_=>?_
     obtain⟨vv,gv,ev,hv,fh,gI,hD⟩:∃(vv:V) (gv:Fr),(Dj.valJ kvs (Dj.ktL tm)).getD (.ref z)=vv/\TrAt (upd H5 z (.tup [.int 0, .int 1])) vv (frT gv)/\Gf 3461 gv/\rv gv=Su.tot tm (aW (bs.map ofB) (wk.take i))+Su.tot tm (b.ps.take q)*rv fr/\Sh gv:=by
      by_cases mt:tm∈ks
      . refine hZq fun q_ e_=>?_;obtain⟨v,e1,e2⟩:=gS mt;obtain⟨a1,a2,a3⟩:=hV.v tm mt;subst e_;exact⟨v,G tm,by rw[e1];rfl,e2.mono (Kd.of_same sz),Ov.gf g0 hR.lt (by decide) a1 ((by rw[a2];exact a3:Ov g _ (rv (G tm))).mono (by omega)),a2,a1⟩
      . exact⟨.ref z,zero,by rw[eB mt];rfl,aP gs,Gf.one (by decide),by rw[cy];exact(hV.z tm mt).symm,eQ⟩
     subst e_;rw[ev];have s6:=s5.trans sz;have fa:=Dj.en_mono (Kd.of_same sz) pr
     have bx:rt≠D:=fun e=>by
      have:=j.at_;rw[<-e,af]at this;cases this
     have eG:=d.same sz;have cd:=sz _ _ af;have bT:=a7.mono (Kd.of_same s6);have bw:=j.kd (Kd.of_same sz) (sz _ _ j.at_);generalize upd H5 z (.tup [.int 0, .int 1])=H6 at s6 hv eG cd bT bw fa ⊢;refine⟨_,rfl,_,rfl, .ref rs, .ref rf,sf,fr,21,3329,rfl,aP (s6 _ _ g1),aP (s6 _ _ bY),c3,gk,by decide,fun x7 H7 f7 s7 d2 db e7 g7=>?_⟩
     have hj:Gf 3350 f7:=g7;refine⟨vv,x7,gv,f7,3461,3350,rfl,hv.mono (Kd.of_same s7),d2,fh,hj,by decide,fun x8 H8 f8 s8 f3 hf e8 g8=>?_⟩
     have a5:=s7.trans s8;have cb:=bw.kd (Kd.of_same a5) (a5 _ _ bw.at_);have f5:=eG.same a5;have c2:=bT.mono (Kd.of_same a5);refine⟨_,rfl,_,rfl,D,bt,Dj.ktL tm,kvs,rfl,rfl,cb,Dj.key_tm ty dp c2,by omega,?_⟩
     have gh:=f5.put ty dp c2 f3 cb fun _=>Dj.en_mono (Kd.of_same a5) fa;refine⟨aH nD (s6.trans a5),_,_,_,_,rfl,gh,fun t mt=>?_,?_,?_⟩
     . rcases addK_mem.mp mt with mt|rfl
       . exact u t mt
       . exact mT
     . refine hV.put (r:=rv sf*rv fr) hf (by rw[e8,e7,gI]) (oq.mono (by show 3350<=3401+6*i+q;omega)) fun t=>?_
       rw[aD eq,dO,uc];dsimp only;by_cases z:tm=t
       . rw[if_pos z,if_pos z];grind
       . rw[if_neg z,if_neg z];grind
     . exact(ag bx).trans (a5 _ _ cd)
   . intro σ H5 z_;refine hZq fun q_ e_=>?_;obtain⟨s5,ks,G,v8,v9,rfl,d,u,hV,af⟩:=z_;subst e_;rw[yl,zx]at hV
     have bx:rt≠D:=fun e=>by
      obtain⟨kvs,j,_⟩:=d.ex;have:=j.at_;rw[<-e,af]at this;cases this
     have gm:=ub.g71;have om:=jX gm.pos f2 bF (tZ ub) c4;have fm:Gf 3449 tt:=Ov.gf g0 hR.lt (by decide) a6 (dI.mono (by omega))
     refine⟨_,rfl,_,rfl,_,rfl,lb,xs,(pl:Int), .ref rb,rfl,rfl,SqL.of (s5 _ _ hl),aI d4,rb,_,1, .ref rm,rfl,rfl,SqT.of (s5 _ _ d5),rfl,_,rfl, .ref rm, .ref rf,b.lim,fr,71,3329,rfl,aP (s5 _ _ fC),aP (s5 _ _ bY),gm,gk,by decide,fun x6 H6 f6 s6 bT hI e6 g6=>?_⟩
     have fB:Gf 3400 f6:=g6;refine⟨.ref rt,x6,tt,f6,3449,3400,rfl,aP (s6 _ _ af),bT,fm,fB,by decide,fun x7 H7 f7 s7 d2 db e7 g7=>?_⟩
     obtain⟨r7,rfl,e4⟩:=bU d2;refine aj ?_
     try dsimp only
     have ew:=s6.trans s7
     have e8:rv f7=totR (bs.map ofB) (wk.take (i+1)):=by
      rw[bI,pB,pA,e7,e6,bj];dsimp only;rw[bg];rfl
     have o8:Ov g (3401+6*(i+1)) (rv f7):=by
      rw[e7,e6];exact((dI.add (om.mono (show 198+3202<=3401+6*i by omega)) (z4 _))).mono (by omega)
     have eT:Vf g (3401+6*(i+1)) ks G (fun t=>Su.tot t (aW (bs.map ofB) (wk.take (i+1)))):=by
      have ef:(fun t=>Su.tot t (aW (bs.map ofB) (wk.take (i+1))))=fun t=>Su.tot t (aW (bs.map ofB) (wk.take i))+Su.tot t b.ps*rv fr:=by
       funext t;rw[bI,oT,dO,oS];dsimp only;rw[bg];show _+Su.tot t (b.ps.map (scale fr))=_;rw[iB t bb fun p mp=>(ub.gq p mp).sh]
      rw[ef];exact hV.mono (by omega)
     have eL:(st ||b.st)=true↔∃k∈wk.take (i+1),(bdAt (bs.map ofB) k.1).st=true:=by
      rw[bI,Bool.or_eq_true,bC];simp only[zv,zw];constructor
      . rintro(⟨k,mk',h⟩|h)
        . exact⟨k, .inl mk',h⟩
        . exact⟨_, .inr rfl,by rw[bg];exact h⟩
      . rintro⟨k,mk'|rfl,h⟩
        . exact .inl ⟨k,mk',h⟩
        . rw[bg]at h;exact .inr h
     have bB:=s5.trans ew;have ee:=d.same ew;refine⟨_,rfl,st,rfl,?_⟩
     cases st with
     |true=>
      refine iteT ?_;refine aj ?_;exact⟨bB,ks,G,r7,f7,true,_,_,_,_,_,rfl,ee,u,eT,e4,db,e8,o8,eL⟩
     |false=>
      refine iteF ?_;refine⟨_,rfl,_,rfl,lb,xs,(pl:Int), .ref rb,rfl,rfl,SqL.of (bB _ _ hl),aI d4,rb,_,2, .bl b.st,rfl,rfl,SqT.of (bB _ _ d5),rfl,?_⟩;refine aj ?_;exact⟨bB,ks,G,r7,f7,b.st,_,_,_,_,_,rfl,ee,u,eT,e4,db,e8,o8,eL⟩
 . intro σ H3 z_;refine hZq fun q_ e_=>?_;obtain⟨s3,ks,G,rt,tt,st,v5,v6,v7,v8,v9,rfl,d,u,hV,bR,a6,bj,dI,bC⟩:=z_;subst e_;rw[zx]at hV bj bC;have hH:wk.length≠0:=fun z=>aC.ne (List.length_eq_zero_iff.mp z);refine⟨_,rfl,l,wv,rfl, .inl (SqL.of (s3 _ _ hw)),rfl,_,rfl,?_⟩;refine ite2 (fun c=>?_) fun _=>?_
   . have e:=of_decide_eq_true c;injection e with e;exact absurd e (by omega)
   refine kT ?_;refine bW (rest:= []) rfl ?_;obtain⟨kvs,dj,pr⟩:=d.ex;refine⟨_,rfl,D,kvs,rfl,rfl,dj,fun vw nv=>?_⟩;have sv:=ae (o:=bH vw D) nv;have fb:=dj.kd (Kd.of_same sv) (sv _ _ dj.at_);have fR:=Dj.en_mono (Kd.of_same sv) pr;refine⟨vw,D,kvs,rfl,a8,fb,fun o M nM=>?_⟩;have hg:Kd (upd H3 vw (bH vw D)) (upd (upd H3 vw (bH vw D)) D (.frz o (Dj.dJ P w D kvs))):=Dj.Kd.updJ fb.at_;have ej:=Dj.en_mono hg fR;have sF:Same H (upd (upd H3 vw (bH vw D)) D (.frz o (Dj.dJ P w D kvs))):=aH nD (s3.trans sv)
   have bx:rt≠D:=fun e=>by
    have:=dj.at_;rw[<-e,bR]at this;cases this
   have cm:(upd (upd H3 vw (bH vw D)) D (.frz o (Dj.dJ P w D kvs))) rt=some (.tup [.int tt.1, .int tt.2]):=(ag bx).trans (sv _ _ bR);have hF:=a8 (H:=upd H3 vw (bH vw D)) (a:=D) (o:= .frz o (Dj.dJ P w D kvs));generalize upd (upd H3 vw (bH vw D)) D (.frz o (Dj.dJ P w D kvs))=H4 at nM ej hF sF cm ⊢;refine Dj.comp_valuesT (fun i ac H'=>ac= []/\Same H4 H'/\H' M=some (.lst [])) ⟨rfl,ae nM,a8⟩ (fun i ac H' p=>p.2.1 _ _ hF) ?_ ?_
   . intro i y ac H' hi ex z_;refine hZq fun q_ e_=>?_;obtain⟨rfl,s4,hM⟩:=z_;rw[z7]at ex;obtain⟨⟨ek,eb,ev⟩,f4,rfl⟩:=zf.mp ex;obtain⟨t,et,e1,e2,e3⟩:=Dj.paired_get ej f4;subst e_;dsimp only at e3 ⊢;refine hZq fun q_ e_=>?_;obtain⟨gl,rfl,b7⟩:=bU e3;obtain⟨g5,eg,_⟩:=hV.v t (za et);subst e_;rw[aC.tot]at eg;have gz:G t=zero:=lu g5 eQ (by rw[eg,cy])
     rw[gz]at b7;refine⟨_,rfl,two,fun z nz=>?_⟩;have sz:=ae (o:= .tup [.int 0, .int 1]) nz;refine⟨gl,z,0,1,0,1,rfl,rfl,SqT.of (sz _ _ (s4 _ _ b7)),SqT.of a8,?_⟩;refine⟨_,rfl,?_⟩;exact iteF (CompS.mk hi ⟨rfl,s4.trans sz,sz _ _ hM⟩)
   . rintro ac H' ⟨rfl,s4,hM⟩;have cp:=s4 _ _ cm;have ea:=sF.trans s4;refine⟨M,[],rfl, .inl (SqL.of hM),0,0,rfl,rfl,_,rfl,?_⟩;refine iteF (cC ?_)
     have eR:tt.1 < 0\/(tt.1=0/\st=true):=by
      have tp:=a6.1;rcases aC.low with h|⟨h,hk⟩
      . left;rw[<-bj]at h;refine Int.not_le.mp fun z=>?_
        have:(0:Rat)<=rv tt:=by
         rcases Int.lt_or_eq_of_le z with z|z
         . exact Rat.le_of_lt ((g9 tp).mpr z)
         . unfold rv;rw[<-z,Rat.div_def];show(0:Rat)<=(0:Rat)*_;rw[Rat.zero_mul];exact Rat.le_refl
        exact absurd h (Rat.not_lt.mpr this)
      . right;have:tt=zero:=lu a6 eQ (by rw[bj,h,cy])
        exact⟨by rw[this];rfl,bC.mpr hk⟩
     refine⟨_,rfl,rt,_,0, .int tt.1,rfl,rfl,SqT.of cp,rfl,tt.1,0,rfl,rfl,_,rfl,?_⟩;refine ite2 (fun c=>k _ ea) fun c=>?_;have e:=eR.resolve_left fun z=>c (decide_eq_true z);refine⟨_,rfl,rt,_,0, .int tt.1,rfl,rfl,SqT.of cp,rfl,rfl,_,rfl,?_⟩;rw[e.1];refine ite2 (fun _=>?_) fun c=>absurd rfl c;refine⟨_,rfl,?_⟩;rw[e.2];exact k _ ea
end
end K39
namespace Dj
open PySem PySem.Spec PySem.W PyProof.Rows L2 Tre
section
variable{prog:Program}{w:World}{A:Around}{E:Value->Shared->Prop}{s:Shared}{d:Addr}
theorem ox{o:Obj}{es:Array DictEntry}{ep:Nat}{Q:Value->Shared->Prop}(ho:s.heap.get? d=some o)(hc:o.ExactDict)(hdat:o.data= .dict es ep)(hes:es.size<=sizeLine)(hT:s.TypeIs (.ref d) "dict")(h:∀h',(∃o',h'.get? d=some o'/\o'.ExactDict/\o'.data= .dict #[] (ep+1))->Heap.SameBut d s.heap h'->Q .none {s with heap:=h'}):wpAny (model prog w) A (call (.builtin "dict.clear") [.ref d]) Q E s:=by
 refine wpAny_call_entry PySem.F.slot_dict_clear hT PySem.F.entry_dict_clear ?_ (PySem.F.args_dict_clear_1 _);unfold Builtin.«dict.clear»;refine wpAny_bind ?_;unfold Builtin.Dict.noArgs;refine wpAny_bind (wpAny_notOrdered_dict hT ?_);show wpAny _ _ (pure d) _ _ s;refine wpAny_pure ?_;refine wpAny_bind (wpAny_dictEntries ho hdat ?_);refine wpAny_bind ?_;unfold bearsInstanceDictMark;refine wpAny_bind (wpAny_load ho (wpAny_pure ?_));refine wpAny_bind (wpAny_updateDictKeys (hz:=hes) ho hdat ?_)
 have a:∃o',(s.heap.update d (Obj.mapDictKeys fun _=> #[])).get? d=some o'/\o'.ExactDict/\o'.data= .dict #[] (ep+1):=
  ⟨_,Heap.get?_update_self _ ho (Obj.isFreed_of_dict (Obj.data_mapDictKeys hdat _)),hc.mapDictKeys _,Obj.data_mapDictKeys hdat _⟩
 split
 . exact wpAny_bind (wpAny_letGo (wpAny_pure ⟨.none,rfl,h _ a (Heap.SameBut.update ..)⟩))
 . exact wpAny_bind (wpAny_pure (wpAny_pure ⟨.none,rfl,h _ a (Heap.SameBut.update ..)⟩))
end
theorem thaw{X:Cx}{pins:List (Addr×Obj)}{σ:L2.St}{H:Hp}{s:Shared}{a:Addr}{ob:Obj}{u:HO}(I:Inv X pins σ H s)(ha:H a=some (.frz ob u))(h0:X.H₀ a=none)(n1:∀x,u≠ .own x)(n2:∀xs,u≠ .tup xs):Inv X pins σ (upd H a u) s:=by
 have ne:∀ {b:Addr},H b=none->upd H a u b=none:=fun{b} e=>by
  rw[ag (fun z=>by rw[z,ha]at e;cases e)]
  exact e
 refine{I with base:=⟨I.base.keep,I.base.slot,fun b o e n hx=>ne (I.base.free b o e n hx),I.base.there,fun b xs e=>?_,fun b o v e=>?_,fun b ps e=>?_⟩,free:=ne I.free,freeC:=fun x c e=>ne (I.freeC x c e),pin:=fun p hp=>?_,hok:=fun b o q=>?_}
 . rw[ag (fun z=>by rw[z,h0]at e;cases e)]
   exact I.base.tups b xs e
 . rw[ag (fun z=>by rw[z,h0]at e;cases e)]
   exact I.base.frzs b o v e
 . rw[ag (fun z=>by rw[z,h0]at e;cases e)]
   exact I.base.tbls b ps e
 . obtain⟨d,g,f⟩:=I.pin p hp;exact⟨d,ne g,f⟩
 . have go:ObjOk X.prog X.w H s.heap b o:=by
    by_cases z:b=a
    . subst z;rw[a8]at q;cases q;exact(show ObjOk X.prog X.w H s.heap b (.frz ob u)from I.hok b _ ha).2
    . rw[ag z]at q;exact I.hok b o q
   refine go.stay (fun c v _ r=>r) (fun c r=>?_) fun c xs r=>?_
   . rw[ag (fun z=>by rw[z,ha]at r;cases r)]
     exact r
   . rw[ag (fun z=>by rw[z,ha]at r;cases r)]
     exact r
def rj(P:Program)(w:World)(K:PySem.W.Frag)(H0:Hp):V->Hp->VK->Prop:=fun x H Q=>∃a,x= .ref a/\((∃xs,H a=some (.lst xs)/\Q .non (upd H a (.lst [])))\/∃o kvs,H a=some (.frz o (dJ P w a kvs))/\H0 a=none/\Q .non (upd H a (dJ P w a [])))
noncomputable def pP(P:Program)(w:World)(K:PySem.W.Frag)(H0:Hp)(td:TE):TE:=fun σ H Q=>td σ H fun x H1=>rj P w K H0 x H1 Q
theorem pe_clearLJ{X:Cx}{P:Program}{w:World}{K:PySem.W.Frag}{H0:Hp}{o:Expr}{td:TE}{apos cpos:Pos}(hP:X.prog=P)(hw:X.w=w)(hK:X.K=K)(hH:X.H₀=H0)(ho:PE X o td)(hbase:attributeBase o "clear" X.env (eval o X.env)=eval o X.env:=by rfl)(hline:(apos.endLine==cpos.line)=true:=by rfl):PE X (.Call (.Attribute o "clear" apos) [] [] cpos) (pP P w K H0 td):=by
 subst hP hw hK hH;intro pins s σ H Q I h;refine wpAny_Call_method0_late hbase hline (thn (ho pins s σ H _ I h) fun v s1 ⟨x,H1,d,r1,p⟩=>?_);obtain⟨a,rfl,q⟩:=id p;cases r1;rcases q with⟨xs,ha,q⟩|⟨u,kvs,ha,h0,q⟩
 . obtain⟨z,its,n,r,hl,e⟩:=d.lstM ha;refine⟨"list","list.clear",PySem.F.plainAttrs_list,PySem.F.slot_list_clear,PySem.F.type_list_clear,⟨_,e,rfl⟩,fun b q=>?_,Calls.callWith_builtin rfl (PySem.evalArgs_none (sk pins s1 σ H1 (.ref a) [] _ [] Q d rfl .nil ⟨a,xs,rfl,rfl,ha,q⟩))⟩;cases q;exact⟨_,e,rfl⟩
 . have k:=thaw d ha h0 (fun x z=>by cases z) (fun xs z=>by cases z)
   have e2:upd (upd H1 a (dJ X.prog X.w a kvs)) a (dJ X.prog X.w a [])=upd H1 a (dJ X.prog X.w a []):=by
    funext b;by_cases z:b=a
    . subst z;rw[a8,a8]
    . rw[ag z,ag z,ag z]
   have c:(upd H1 a (dJ X.prog X.w a kvs)) a=some (dJ X.prog X.w a kvs):=a8;obtain⟨⟨z,hd,xs,g,ob,es,ep,h1,h2,h3,m,y⟩,_⟩:=(show ObjOk X.prog X.w _ s1.heap a (dJ X.prog X.w a kvs)from k.hok a _ c);have j:s1.TypeIs (.ref a) "dict":=⟨ob,h1,h2.1⟩;refine⟨"dict","dict.clear",PySem.F.plainAttrs_dict,PySem.F.slot_dict_clear,PySem.F.type_dict_clear,j,fun b q=>?_,Calls.callWith_builtin rfl (PySem.evalArgs_none ?_)⟩
   . cases q;exact⟨ob,h1,h2.2.1⟩
   have f:es.size<=sizeLine:=by
    have:=congrArg List.length m;rw[zO,yY,<-Paired.length g]at this;omega
   refine ox h1 h2 h3 f j fun h' ⟨o',l,g2,t⟩ hs=>?_;have i:=fe (t':=s1.toks) k (by rw[c];exact True.intro) hs ⟨o',l⟩ (jz (kvs:= []) (xs:= []) (zr _) hd .nil ⟨o', #[],ep+1,l,g2,t,rfl,AK⟩)
   rw[e2]at i;exact⟨.non,_,i,rfl,q⟩
def rIsiJ(P:Program)(w:World)(K:PySem.W.Frag):List V->Hp->VK->Prop:=fun xs H Q=>∃a c kvs b,xs= [.ref a,c]/\DJ P w K H a kvs/\km c=true/\PySem.W.kitOne K (.type "dict") (clsV c)=some b/\Q (.bl b) H
theorem call_isiJ{X:Cx}{P:Program}{w:World}{K:PySem.W.Frag}(hP:X.prog=P)(hw:X.w=w)(hK:X.K=K):bV X (.builtin "isinstance") (rIsiJ P w K):=by
 subst hP hw hK;intro pins s σ H xs us Q I r h;obtain⟨a,c,kvs,b,e,d,hc,hk,q⟩:=h;subst e
 cases r with
 | @cons _ u _ _ g r=>
  cases r with
  | @cons _ v _ _ i r=>
   cases r;cases (show u=Value.ref a from g);obtain⟨z,hd,xs,f,ob,es,ep,h1,h2,h3,j,k⟩:=fc I.hok I.kIn d;cases jG i hc;exact PySem.W.kia_one PySem.W.kitx_dict I.kIn ⟨ob,h1,h2.1⟩ hk (fun z=>nomatch z) fun tk=>⟨.bl b,H,I.tok tk,rfl,q⟩
end Dj
namespace K39
open PySem L2 Mth Tre Wd Su
theorem fark{bs:List Bnd}{g:Tr->Rat}(hsh:∀b∈bs,∀p∈b.ps,Sh p.2)(hm:Met g bs):
 ∀ {wk:List Wt},(∀k∈wk,k.1 < bs.length)->(∀k∈wk,Sh k.2/\0 < k.2.1)->lin g (aW (bs.map ofB) wk)<=totR (bs.map ofB) wk/\((∃k∈wk,(bdAt (bs.map ofB) k.1).st=true)->lin g (aW (bs.map ofB) wk) < totR (bs.map ofB) wk)
 | [],_,_=>⟨by simp only[aW,lin,totR];exact Rat.le_refl,fun⟨k,m,_⟩=>by cases m⟩
 |k::r,h1,h2=>by
  obtain⟨i1,i2⟩:=fark hsh hm (wk:=r) (fun x m=>h1 x (z5 _ m)) fun x m=>h2 x (z5 _ m);obtain⟨j,c⟩:=vq (h1 k z6);have mb:=za j;have a:=hm _ mb;have e:=hsh _ mb;generalize bs[k.1]'(h1 k z6)=b at c a e;obtain⟨d,i⟩:=h2 k z6;have pos:0 < rv k.2:=(g9 d.1).mpr i;simp only[aW,totR];rw[jq,c];show lin g (b.ps.map (scale k.2))+_<=rv b.lim*rv k.2+_/\(_->lin g (b.ps.map (scale k.2))+_ < rv b.lim*rv k.2+_);rw[oN g d e]
  have le:lin g b.ps*rv k.2<=rv b.lim*rv k.2:=by
   refine Rat.mul_le_mul_of_nonneg_right ?_ (Rat.le_of_lt pos);rcases a with h|⟨h,_⟩
   . exact Rat.le_of_lt h
   . rw[h];exact Rat.le_refl
  refine⟨by grind,fun⟨x,f,hx⟩=>?_⟩
  rcases zc.mp f with rfl|f
  . have lt:lin g b.ps*rv x.2 < rv b.lim*rv x.2:=by
     rcases a with h|⟨_,h⟩
     . exact Rat.mul_lt_mul_of_pos_right h pos
     . rw[c]at hx;rw[show b.st=true from hx]at h;cases h
    grind
  . have:=i2 ⟨x,f,hx⟩;grind
theorem never{bs:List Bnd}{g:Tr->Rat}{wk:List Wt}(hsh:∀b∈bs,∀p∈b.ps,Sh p.2)(hm:Met g bs)(h:Wts bs wk):False:=by
 obtain⟨d,c⟩:=fark hsh hm h.lt fun k m=>⟨h.sh k m,h.pos k m⟩;have a:lin g (aW (bs.map ofB) wk)=lin g []:=xp g fun t=>h.tot t;simp only[lin]at a;rw[a]at d c;rcases h.low with z|⟨z,x⟩
 . exact absurd d (Rat.not_le.mpr z)
 . have:=c x;rw[z]at this;exact absurd this Rat.lt_irrefl
def NumK(P:Program)(w:World)(K:PySem.W.Frag)(H:Hp)(r:Addr)(bs:List Bnd):Prop:=∃(d:Addr) (us:List Tr) (G:Tr->Fr) (x:Tr->Int) (D:Int),H r=some (.tup [.str (Str.ofString "numbers"), .ref d])/\Dj.DAt P w K H d us G/\(∀t∈us,Sh (G t)/\Gf 3202 (G t))/\Rep us G 3202 x D/\TmIn us bs/\Met (gw us G) bs
def WtsK(H:Hp)(r:Addr)(bs:List Bnd):Prop:=∃(l:Addr) (wv:List V) (wk:List Wt) (g:Int),H r=some (.tup [.str (Str.ofString "weights"), .ref l])/\H l=some (.lst wv)/\TrsAt H wv (wk.map wtT)/\Wts bs wk/\Wr bs wk g 3202
def CC:Nat:=2^1600
theorem nY{x:Nat}(h:x<=CC*(CC+1)+CC):x < 2^3202:=zg h (by decide +kernel)
theorem fac8{m:Nat}(h:m<=8):Wg.fac m*(2^71*2^127)^m<=CC:=by
 have:∀m:Fin 9,Wg.fac m.val*(2^71*2^127)^m.val<=CC:=by decide +kernel
 exact this ⟨m,by omega⟩
theorem Ub.bz{ns:List Int}{bs:List Bnd}(h:∀b∈bs,Ub ns b)(h8:bs.length<=8):Bz bs (2^71) (2^71) (2^127) 5 CC:=by
 refine⟨fun b mb=>⟨(h b mb).l5,fun p mp=>?_,Aj (h b mb).g71.top,Aj (h b mb).g71.bot⟩,fun b mb=>Aj (h b mb).scl,by decide,by decide,?_,fac8 h8,by decide +kernel,by decide +kernel,?_⟩
 . have g:=((h b mb).gq p mp).gf.mono (n:=71) (by have:=(iJ ns).2;omega)
   exact⟨Aj g.top,Aj g.bot⟩
 . rw[<-Nat.pow_mul];exact AB (by decide) (by decide)
 . exact AB (by decide) (by decide)
theorem tW{a b:Wt}(h:wtT a=wtT b):a=b:=by
 obtain⟨p,f⟩:=a;obtain⟨q,g⟩:=b;have h':Tr.tup [.int (p:Int),frT f]= .tup [.int (q:Int),frT g]:=h;simp only[Tr.tup.injEq,Au,Tr.int.injEq,frT]at h';obtain⟨e1,e2,_⟩:=h';have c:f=g:=Prod.ext e2.1 e2.2.1;rw[c];have:p=q:=by omega
 rw[this]
theorem uN{a b:List Wt}(h:a.map wtT=b.map wtT):a=b:=by
 induction a generalizing b with
 |nil=>
  cases b with
  |nil=>rfl
  |cons y r=>cases h
 |cons x r c=>
  cases b with
  |nil=>cases h
  |cons y r'=>
   rw[zj,zj]at h;injection h with h1 h2;rw[tW h1,c h2]
theorem WOut.good{T0 l r:Addr}{H H':Hp}{bs:List Bnd}{ws2:List V}{us2 us:List Tr}{Tb:Wg.Tb}{i:Nat}{ns:List Int}(hU:∀b∈bs,Ub ns b)(h8:bs.length<=8)(h:WOut T0 H H' bs l ws2 us2 us Tb i)(hr:H' r=some (.tup [.str (Str.ofString "weights"), .ref l])):WtsK H' r bs:=by
 have m:∀b∈bs,Gbd T5 71 b:=fun b mb=>(hU b mb).gbd;have a:=(Ub.bz hU h8).wb (T:=T5) (e:=71) m us;obtain⟨wk,j,d,y,hb⟩:=h.wts m a;obtain⟨v,o,s,_⟩:=h.wt;obtain⟨qs,u,t⟩:=gU s rfl;have f:wk=qs:=uN (j.symm.trans u);subst j;subst f;obtain⟨n,w⟩:=a.gcn (by rw[yY]) h.ok h.hi h.hs
 have c:=a.cnts h.ok h.hi h.hs;have cc:∀ {x:Nat},x<=CC*CC->x < 2^3202:=fun{x} q=>nY (zh q (zh (Nat.mul_le_mul_left _ (Nat.le_succ _)) (AJ _ _)));refine⟨l,ws2,wk,gcn (bs.map scl) (cnt us.length Tb i),hr,v,o,d,n,cc w,fun k mk b g=>?_⟩;have:=t.mem_iff.mp mk;unfold K39.wts at this;obtain⟨p,mp,e⟩:=zJ.mp this;refine⟨p.2,?_,zg (zh (c p mp).2 (Nat.le_add_left _ _)) (nY (z4 _))⟩;rw[<-e]at g ⊢;dsimp only at g ⊢;unfold wf;rw[ft n,zd,z7,g];rfl
theorem NOut.good{P:Program}{w:World}{K:PySem.W.Frag}{T0 d r:Addr}{H H':Hp}{bs:List Bnd}{us:List Tr}{Tb:Wg.Tb}{M:Int}{G:Tr->Fr}{ns:List Int}(hU:∀b∈bs,Ub ns b)(h8:bs.length<=8)(h:NOut P w K T0 H H' bs CC d us Tb M G)(hr:H' r=some (.tup [.str (Str.ofString "numbers"), .ref d])):NumK P w K H' r bs:=by
 have p:∀b∈bs,Gbd T5 71 b:=fun b mb=>(hU b mb).gbd;have q:=(Ub.bz hU h8).wb (T:=T5) (e:=71) p us;obtain⟨n,bl⟩:=q.bnd h.ok.inv h.ok.pm;have m1:=h.m1;have mc:=h.mc;have o:M.natAbs<=CC+1:=by omega
 have b0:=h.ok.inv.pos;have m:(0:Int) < Tb.bot*M:=Ax b0 (by omega)
 have i:Lt2 3202 (Tb.bot*M):=nY (by rw[zM];exact zh (AI n o) (AJ _ _))
 have f:∀j,j < us.length->Lt2 3202 (Wg.pt bs.length us.length M Tb (bs.length+j)):=fun j s=>by
  have l1:=lM (k:=bs.length+j) (c:=us.length) h.ok.pm n bl (by omega)
  have l2:=lM (k:=bs.length+j) (c:=us.length+1) h.ok.pm n bl (by omega)
  refine nY ?_;rw[<-sG];refine zh (Int.natAbs_add_le _ _) ?_;rw[zM];exact Nat.add_le_add (AI l1 o) l2
 have Dn:=bp m
 have at_:∀t∈us,us[Fm.ix us t]?=some t/\Fm.ix us t < us.length:=fun t a=>by
  have e:=Fm.ix_at a;exact⟨e,(zb.mp e).1⟩
 have l:∀t∈us,Sh (G t)/\((Wg.pt bs.length us.length M Tb (bs.length+Fm.ix us t):Int):Rat)=rv (G t)*((Tb.bot*M:Int):Rat):=fun t a=>by
  obtain⟨e,_⟩:=at_ t a;rw[h.g _ _ e];refine⟨di (by omega),?_⟩
  rw[ft m,Rat.div_def];grind
 refine⟨d,us,G,fun t=>Wg.pt bs.length us.length M Tb (bs.length+Fm.ix us t),Tb.bot*M,hr,h.da,fun t a=>?_,⟨m,i,fun t a=>⟨(l t a).2,f _ (at_ t a).2⟩⟩,h.tm,h.met p⟩;refine⟨(l t a).1,Gf.low (g:=(Wg.pt bs.length us.length M Tb (bs.length+Fm.ix us t),Tb.bot*M)) (l t a).1 ⟨m,f _ (at_ t a).2,i⟩ ?_⟩;show _=((Wg.pt bs.length us.length M Tb (bs.length+Fm.ix us t):Int):Rat) / ((Tb.bot*M:Int):Rat);rw[(l t a).2,Rat.div_def];grind
theorem lY:bootBuiltins "dict"=some (.type "dict"):=by decide +kernel
theorem kLL(K:PySem.W.Frag):PySem.W.kitOne K (.type "list") (.type "list")=some true:=by kernel_rfl
theorem kDD(K:PySem.W.Frag):PySem.W.kitOne K (.type "dict") (.type "dict")=some true:=by kernel_rfl
section
variable{P:Program}{w:World}{K:PySem.W.Frag}{mg:Str->Option Value}{base:Heap}{T0:Addr}
def jb(P:Program)(w:World)(K:PySem.W.Frag):Sp:=fun vs H Q _=>∃(lb r:Addr) (xs:List V) (bs:List Bnd) (ns:List Int),vs= [.ref lb, .ref r]/\H lb=some (.lst xs)/\TrsAt H xs (bs.map bdT)/\(∀b∈bs,Ub ns b)/\bs.length<=8/\(NumK P w K H r bs\/WtsK H r bs)/\(WtsK H r bs->∀H',Same H H'->Q (.bl true) H')/\∀d H' o kvs,H r=some (.tup [.str (Str.ofString "numbers"), .ref d])->(∃kvs',Dj.DJ P w K H d kvs')->ButT d H H'->H' d=some (.frz o (Dj.dJ P w d kvs))->Q (.bl true) H'
theorem scGo:FnScope ["_law_bounds_here","_law_found"] ["_law_bounds_here","_law_found"] (ah qP):= .of
theorem si:¬(V.str (Str.ofString "weights")=V.str (Str.ofString "numbers")):=fun z=>absurd (V.str.inj z) (by decide +kernel)
theorem uJ{f:Addr}{fd:FuncData}(F:Fun K "_law_good" "_law_good" qP f fd)(B:Blt mg)(hdi:mg "dict"=none)(zN:Cl P w K mg base 4 "_law_numbers" ["_law_bounds_here","_law_numbers_here"] (kZ P w K))(zW:Cl P w K mg base 3 "_law_weights" ["_law_bounds_here","_law_weights_here"] pZ):FnOk P w K mg base CX0 5 f fd ["_law_bounds_here","_law_found"] (jb P w K):=by
 refine F.okb scGo fun vs H Q E h=>?_;refine hZq fun q_ e_=>?_;obtain⟨lb,r,xs,bs,ns,rfl,hl,t,q,b8,hG,kW,kN⟩:=h;subst e_;refine⟨rfl,fun ac A outer s hr=>?_⟩;have n:Room 3 _:=hr.mono (by decide)
 have p:Room 4 _:=hr
 refine⟨_,ad (bG (PW.pt (dU (e9 (cD (av (r:=rIsi K) cW rfl B.isi aU (a0 (pv 1) (a0 (df (v:= .ty "tuple") rfl B.tu PyProof.Rows.boot_tuple rfl) aa))))) (fw (ax iF (av ar rfl B.le PySem.boot_len (a0 (pv 1) aa)) a9 (ay _))))) (ai (az eV)) aO)
  (ad (bG (ax ci (ao aw (pv 1) a9 fun _ _=>rfl) cM (ay _))
   (ai (az (dg (av (r:=Dj.rIsiJ P w K) (Dj.call_isiJ rfl rfl rfl) rfl B.isi aU (a0 (ao aw (pv 1) a9 fun _ _=>rfl) (a0 (df (v:= .ty "dict") rfl hdi lY rfl) aa))) (dA (ak zN p (a0 (pv 0) (a0 (ao aw (pv 1) a9 fun _ _=>rfl) aa))))))) aO)
  (ai (az (dg (cf ci (ao aw (pv 1) a9 fun _ _=>rfl) cM (ay _)) (dg (av (r:=rIsi K) cW rfl B.isi aU (a0 (ao aw (pv 1) a9 fun _ _=>rfl) (a0 (df (v:= .ty "list") rfl B.li PyProof.Rows.boot_list rfl) aa))) (dA (ak zW n (a0 (pv 0) (a0 (ao aw (pv 1) a9 fun _ _=>rfl) aa))))))))),?_⟩
 rcases id hG with⟨d,us,G,x,D,a,y,hg,hR,m,i⟩|⟨l,wv,wk,g,a,hw,z,k,j⟩
 . refine⟨_,rfl, .ref r, .ty "tuple",_,true,rfl, .of (.tup a), .inl ⟨rfl,kTT K⟩,_,rfl,?_⟩;refine iteF ?_;refine⟨_,rfl,r,_,rfl, .inr (SqT.of a),rfl,_,rfl,?_⟩;refine ite2 (fun c=>absurd c (by simp)) fun _=>cC ?_
   refine⟨_,rfl,r,_,0,_,rfl,rfl,SqT.of a,rfl,rfl,_,rfl,?_⟩;rw[decide_eq_true rfl];refine iteT ?_;obtain⟨kvs,u,_⟩:=y.ex;refine⟨_,rfl,r,_,1, .ref d,rfl,rfl,SqT.of a,rfl,d, .ty "dict",kvs,true,rfl,u,rfl,kDD K,?_⟩;refine⟨_,rfl,?_⟩;refine iteT ?_;exact⟨_,rfl,_,rfl,r,_,1,_,rfl,rfl,SqT.of a,rfl,lb,d,xs,bs,ns,us,G,x,D,rfl,hl,t,q,y,hg,hR,m,i,fun H' o kvs' b e=>kN d H' o kvs' a ⟨kvs,u⟩ b e⟩
 . refine⟨_,rfl, .ref r, .ty "tuple",_,true,rfl, .of (.tup a), .inl ⟨rfl,kTT K⟩,_,rfl,?_⟩;refine iteF ?_;refine⟨_,rfl,r,_,rfl, .inr (SqT.of a),rfl,_,rfl,?_⟩;refine ite2 (fun c=>absurd c (by simp)) fun _=>cC ?_
   refine⟨_,rfl,r,_,0,_,rfl,rfl,SqT.of a,rfl,rfl,_,rfl,?_⟩;rw[decide_eq_false si];refine iteF (cC ?_);refine⟨_,rfl,r,_,0,_,rfl,rfl,SqT.of a,rfl,rfl,_,rfl,?_⟩;rw[decide_eq_true rfl];refine iteT ?_;refine⟨_,rfl,r,_,1, .ref l,rfl,rfl,SqT.of a,rfl, .ref l, .ty "list",_,true,rfl, .of (.lst hw), .inl ⟨rfl,kLL K⟩,_,rfl,?_⟩;refine iteT ?_;exact⟨_,rfl,_,rfl,r,_,1,_,rfl,rfl,SqT.of a,rfl,lb,l,xs,wv,bs,ns,wk,g,rfl,hl,t,q,b8,hw,z,k,j,kW ⟨l,wv,wk,g,a,hw,z,k,j⟩⟩
end
end K39
namespace L2
open PySem PySem.Spec PyProof.Rows
section
variable{X:Cx}
end
open PySem PySem.Spec PyProof.Rows
theorem lZ(n:Nat):sliceRange ((n:Int) - 1) (-1) (-1)=(List.range n).map fun k=>n - 1 - k:=by
 unfold sliceRange;simp only[show¬((-1:Int) > 0)by decide,if_false]
 have c:(if (n:Int) - 1 > -1 then((n:Int) - 1 - (-1) - (-1) - 1) / (-(-1))else 0).toNat=n:=by
  by_cases z:n=0
  . subst z;decide
  . rw[if_pos (by omega),show(-(-1:Int))=1 from rfl,Int.ediv_one]
    omega
 rw[c];refine List.map_congr_left fun k m=>?_;have:=zZ.mp m;omega
theorem sY{α β:Type}{f:α->Option β}{g:α->β}:∀ {l:List α},(∀x∈l,f x=some (g x))->l.filterMap f=l.map g
 | [],_=>rfl
 |x::l,h=>by
  rw[List.filterMap_cons,h x z6,zj,sY fun y m=>h y (z5 _ m)]
theorem oA(its:List Value):((List.range its.length).map fun k=>its.length - 1 - k).filterMap (fun k=>its.toArray[k]?)=its.reverse:=by
 refine AO fun j=>?_
 have e:((List.range its.length).map fun k=>its.length - 1 - k).filterMap (fun k=>its.toArray[k]?)=(List.range its.length).map fun k=>its.getD (its.length - 1 - k) Value.none:=by
  rw[List.filterMap_map];refine sY fun k m=>?_;have:=zZ.mp m;show its.toArray[its.length - 1 - k]?=some (its.getD (its.length - 1 - k) Value.none);rw[List.getElem?_toArray,zd,yZ (by omega)]
  rfl
 rw[e,z7];by_cases a:j < its.length
 . rw[yZ (by rw[zY];exact a),List.getElem_range,List.getElem?_reverse a,yZ (by omega)]
   show some (its.getD (its.length - 1 - j) Value.none)=_;rw[zd,yZ (by omega)]
   rfl
 . rw[A8 (by rw[zY];omega),A8 (by rw[List.length_reverse];omega)]
   rfl
theorem l6(its:List Value):slicePick its.toArray none none (some (-1))=its.reverse.toArray:=by
 rw[<-oA];unfold slicePick sliceBounds;simp only[Option.getD_some,show¬((-1:Int) > 0)by decide,if_false,z9]
 rw[lZ]
section
variable{X:Cx}{e est:Expr}{te ts:TE}{pos p2:Pos}
def yi(K:PySem.W.Frag)(te ts:TE):TE:=fun σ H Q=>te σ H fun x H1=>ts σ H1 fun y H2=>∃a xs,x= .ref a/\y= .int (-1)/\SqL K H2 a xs/\∀p,H2 p=none->Q (.ref p) (upd H2 p (.lst xs.reverse))
theorem uD(he:PE X e te)(hs:PE X est ts):PE X (.Subscript e (.Slice none none (some est) p2) pos) (yi X.K te ts):=by
 intro pins s σ H Q I h;refine Subscript_ (thn (he pins s σ H _ I h) fun v s1 ⟨x,H1,i,r1,g⟩=>?_);refine wpAny_Slice ?_;rw[evalPart_none];refine wpAny_pure (wpAny_pure ?_);rw[evalPart_some];refine thn (hs pins s1 σ H1 _ i g) fun l c ⟨y,H2,k,r2,j⟩=>?_;obtain⟨a,xs,rfl,rfl,hx,q⟩:=j;obtain⟨tk,rfl⟩:=r2;cases r1;have d:Inv X pins σ H2 {c with heap:=c.heap.push {cls:= .type "slice",data:= .fields #[.none, .none, .int (-1) tk]}}:=k.kept (t':=c.toks) fun b ob q=>Heap.get?_push_of_some _ q;obtain⟨its,r,ht,hz⟩:=d.list hx;have f:=r.length;show wpAny (model X.prog X.w) X.A (subscriptTail e (.Slice none none (some est) p2) (.ref a) (.ref c.heap.objs.size)) (EP X pins σ Q) X.xe {c with heap:=c.heap.push {cls:= .type "slice",data:= .fields #[.none, .none, .int (-1) tk]}};refine tail_any (ops:= [.ref a, .ref c.heap.objs.size]) ht.isList.typeIs slot_list_getitem.lookup ?_ (by with_unfolding_all rfl)
 refine wpAny_getItem_list_slice ht.isList (Heap.IsSliceOf.new ..) .none .none (.int (-1) tk) (by simp) ?_ (by rw[z9];omega)
 rw[l6];refine⟨.ref _,_,d.laid (t':=c.toks) (o:= .lst xs.reverse) (fun b ob q=>Heap.get?_push_of_some _ q) (z4 _) ?_,rfl,q _ (d.hok.fresh (z4 _))⟩;exact⟨by rw[List.length_reverse];exact hz,_,0,r.reverse,Heap.get?_push_size _ rfl⟩
end
end L2
namespace L2
open PySem PyProof.Rows in
theorem FH.b4{K:PySem.W.Frag}{n:Str}{st:Stmt}{f:Addr}{fd:FuncData}{x y z u:Str}(h:FH K n st f fd)(hb:∀(kV doc pm:Value) (an:Option Addr) (cdv ct a b c d:Value),bindArgs (PySem.W.fnOf n n (b9 st) (aM st) (ah st) .none kV doc pm an cdv ct) ⟨[a,b,c,d],[]⟩=pure [(x,a),(y,b),(z,c),(u,d)]:=by intros;rfl):Binds K fd [x,y,z,u] []:=h.b fun _ _ _ _ _ _ us hl=>match us,hl with| [_,_,_,_],_=>hb _ _ _ _ _ _ _ _ _ _
theorem dP{σ:L2.St}{H:Hp}{Q:List V->Hp->Prop}(h:Q [] H):tNil σ H Q:=h
end L2
namespace K39
open PySem L2 Mth Tre Wd Su
theorem jt{T0:Addr}{ps:Array Value}{H H':Hp}(hT:H T0=some (.tbl ps))(b:ButT T0 H H'):Kd H H':=
 ⟨fun a xs e=>b _ _ (fun z=>by rw[z,hT]at e;cases e) e,fun a xs e=>⟨xs,b _ _ (fun z=>by rw[z,hT]at e;cases e) e⟩⟩
theorem Lm.clr{T0 a:Addr}{H:Hp}{xs:List V}{o':HO}(h:Lm T0 H)(ha:H a=some (.lst xs)):Lm T0 (upd H a o'):=by
 have k:∀ {x:Addr} {b:HO},H x=some b->(∀xs,b≠ .lst xs)->upd H a o' x=some b:=fun{x b} e h1=>by
  rw[ag]
  . exact e
  . intro z;rw[z,ha]at e;exact h1 xs (ze e).symm
 rcases h with h|⟨c,h,h2⟩
 . exact .inl (k h (by intro a z;cases z))
 . exact .inr ⟨c,k h (by intro a z;cases z),k h2 (by intro a z;cases z)⟩
theorem TrsAt.rev{H:Hp}:∀ {vs:List V} {ts:List Tr},TrsAt H vs ts->TrsAt H vs.reverse ts.reverse
 |vs,[],h=>by
  unfold TrsAt at h;subst h;exact .nil
 |vs,t::ts,h=>by
  obtain⟨v,r,rfl,h1,h2⟩:=h.inv;rw[List.reverse_cons,List.reverse_cons];exact TrsAt.app (.cons h1 .nil) (TrsAt.rev h2)
theorem vh{ns:List Int}{b:Bnd}(h:Ub ns b):(bdT b).pure/\(bdT b).depth<=20:=by
 obtain⟨c,d1⟩:Trs.pure (b.ps.map prT)/\Trs.depth (b.ps.map prT)<=8:=gy fun t m=>by
  obtain⟨u,a,rfl⟩:=zJ.mp m;exact⟨cX (h.gq u a).pr.1,(h.gq u a).pr.2⟩
 refine⟨?_,?_⟩
 . simp[bdT,sumT,frT,Tr.pure,Trs.pure,c]
 . simp only[bdT,sumT,frT,Tr.depth,Trs.depth];omega
theorem tM{ns:List Int}{bs:List Bnd}(h:∀b∈bs,Ub ns b):Trs.pure (bs.map bdT)/\Trs.depth (bs.map bdT)<=20:=gy fun t m=>by
 obtain⟨b,mb,rfl⟩:=zJ.mp m;exact vh (h b mb)
def Tld(P:Program)(w:World)(K:PySem.W.Frag)(T0:Addr)(H0 H:Hp)(r:Addr)(bs:List Bnd)(kn:String):Prop:=∃y:Addr,H r=some (.tup [.str (Str.ofString kn), .ref y])/\(∀o',Lm T0 (upd H y o'))/\(∀xs,H0 y≠some (.lst xs))/\((kn= "numbers"/\NumK P w K H r bs/\H0 y=none)\/(kn= "weights"/\WtsK H r bs/\∃xs,H y=some (.lst xs)))
def Aft(P:Program)(w:World)(H H':Hp)(y:Addr)(kn:String):Prop:=(kn= "weights"/\Same H H'/\∃xs,H y=some (.lst xs))\/(kn= "numbers"/\ButT y H H'/\(∃kvs,H y=some (Dj.dJ P w y kvs))/\∃o kvs,H' y=some (.frz o (Dj.dJ P w y kvs)))
theorem Aft.but{P:Program}{w:World}{H H':Hp}{y:Addr}{kn:String}(h:Aft P w H H' y kn):ButT y H H':=by
 rcases h with⟨_,s,_⟩|⟨_,b,_⟩
 . exact fun x o _ e=>s _ _ e
 . exact b
theorem sP{y:Addr}{H H':Hp}{o:HO}(b:ButT y H H')(hy:H y=some o)(n1:∀xs,o≠ .tup xs)(n2:∀xs,o≠ .lst xs):Kd H H':=
 ⟨fun a xs e=>b _ _ (fun z=>by rw[z,hy]at e;exact n1 _ (ze e)) e,fun a xs e=>⟨xs,b _ _ (fun z=>by rw[z,hy]at e;exact n2 _ (ze e)) e⟩⟩
theorem Aft.kd{P:Program}{w:World}{H H':Hp}{y:Addr}{kn:String}(h:Aft P w H H' y kn):Kd H H':=by
 rcases h with⟨_,s,_⟩|⟨_,b,⟨kvs,hy⟩,_⟩
 . exact Kd.of_same s
 . exact sP b hy (fun xs z=>by cases z) (fun xs z=>by cases z)
theorem Aft.ob{P:Program}{w:World}{H H':Hp}{y:Addr}{kn:String}(h:Aft P w H H' y kn):∃o,H' y=some o/\∀xs,o≠ .tup xs:=by
 rcases h with⟨_,s,xs,hy⟩|⟨_,b,_,o,kvs,hy⟩
 . exact⟨_,s _ _ hy,fun xs z=>by cases z⟩
 . exact⟨_,hy,fun xs z=>by cases z⟩
theorem Aft.lms{P:Program}{w:World}{T0:Addr}{H H':Hp}{y:Addr}{kn:String}(h:Aft P w H H' y kn)(l:∀o',Lm T0 (upd H y o'))(o':HO):Lm T0 (upd H' y o'):=by
 refine Lm.same (fun x u e=>?_) (l o');by_cases z:x=y
 . subst z;rw[a8]at e ⊢;exact e
 . rw[ag z]at e ⊢;exact h.but _ _ z e
theorem Aft.lm{P:Program}{w:World}{T0:Addr}{H H':Hp}{y:Addr}{kn:String}(h:Aft P w H H' y kn)(l:∀o',Lm T0 (upd H y o')):Lm T0 H':=by
 obtain⟨o,ho,_⟩:=h.ob;refine Lm.same (fun x u e=>?_) (l o);by_cases z:x=y
 . subst z;rw[a8]at e;rw[ho];exact e
 . rw[ag z]at e;exact h.but _ _ z e
theorem iY{P:Program}{w:World}{K:PySem.W.Frag}{T0 l:Addr}{H:Hp}{xs:List V}{bs:List Bnd}{ns:List Int}{Q:VK}{E:XK}(hl:H l=some (.lst xs))(hT:TrsAt H xs (bs.map bdT))(hU:∀b∈bs,Ub ns b)(b8:bs.length<=8)(hLm:Lm T0 H)(k:∀r H' kn,ButT T0 H H'->Lm T0 H'->Tld P w K T0 H H' r bs kn->Q (.ref r) H'):mh P w K T0 [.ref l] H Q E:=
 ⟨l,xs,bs,T5,71,2^71,2^71,2^127,5,CC,rfl,hl,hT,fun b mb=>(hU b mb).gbd,by decide,(by decide:(5:Nat) < 60),by omega,by decide,Ub.bz hU b8,hLm,
  fun r a H' ws2 us2 us Tb i hr h=>k r H' "weights" h.bt h.lm ⟨a,hr,fun o'=>h.lm.clr h.wt.1,h.nw, .inr ⟨rfl,h.good hU b8 hr,_,h.wt.1⟩⟩,
  fun r d H' us Tb M G hr h=>k r H' "numbers" h.bt h.lm ⟨d,hr,h.lmd,(fun xs z=>by rw[h.dn]at z;cases z), .inl ⟨rfl,h.good hU b8 hr,h.dn⟩⟩⟩
theorem i5{P:Program}{w:World}{K:PySem.W.Frag}{lb r y:Addr}{H0 H:Hp}{xs:List V}{bs:List Bnd}{ns:List Int}{kn:String}{Q:VK}{E:XK}(hl:H lb=some (.lst xs))(hT:TrsAt H xs (bs.map bdT))(hU:∀b∈bs,Ub ns b)(b8:bs.length<=8)(hr:H r=some (.tup [.str (Str.ofString kn), .ref y]))(hk:(kn= "numbers"/\NumK P w K H r bs/\H0 y=none)\/(kn= "weights"/\WtsK H r bs/\∃xs,H y=some (.lst xs)))(k:∀H',Aft P w H H' y kn->Q (.bl true) H'):jb P w K [.ref lb, .ref r] H Q E:=by
 refine⟨lb,r,xs,bs,ns,rfl,hl,hT,hU,b8,hk.elim (fun h=> .inl h.2.1) (fun h=> .inr h.2.1),fun j H' s=>?_,fun d H' o kvs a ⟨kvs',i⟩ b e=>?_⟩
 . rcases hk with⟨rfl,_⟩|⟨rfl,_,hy⟩
   . obtain⟨l,wv,wk,g,c,_⟩:=j;rw[hr]at c;have:=HO.tup.inj (ze c);injection this with e1 _;exact absurd e1.symm si
   . exact k H' (.inl ⟨rfl,s,hy⟩)
 . rw[hr]at a;have f:=HO.tup.inj (ze a);injection f with e1 e2;injection e2 with e2 _;injection e2 with e2;rcases hk with⟨rfl,_⟩|⟨rfl,_,_⟩
   . subst e2;exact k H' (.inr ⟨rfl,b,⟨kvs',i.at_⟩,o,kvs,e⟩)
   . exact absurd e1 si
section
variable{P:Program}{w:World}{K:PySem.W.Frag}{mg:Str->Option Value}{base:Heap}{T0:Addr}
def mn(K:PySem.W.Frag)(T0:Addr):Sp:=fun vs H Q _=>∃(a:Addr) (ns:List Int),vs= [.ref a]/\SqL K H a (ns.map V.int)/\ns.length<=63/\Lm T0 H/\∀H',Q (.bl true) H'
noncomputable def nLw:List Str:= ["_law_script","_law_terms_here","_law_point","_law_k","_law_way","_law_bounds_here","_law_handed","_law_found","_law_turned","_law_again"]
theorem scL:FnScope nLw ["_law_script"] (ah sLaw):= .of
theorem wX{f:Addr}{fd:FuncData}(F:Fun K "law" "law" sLaw f fd)(B:Blt mg)(zTs:Cl P w K mg base 2 "_law_terms" ["_law_script"] (ja K))(zSh:Cl P w K mg base 2 "_law_share" ["_law_script","_law_base"] (eN K))(zD:Cl P w K mg base 1 "_law_draw" ["_law_script","_law_k","_law_many"] (dY K))(zBo:Cl P w K mg base 4 "_law_bounds" ["_law_script","_law_terms_here","_law_point","_law_way"] (gK P w K))(zWg:Cl P w K mg base 44 "weighed" ["bounds"] (mh P w K T0))(zGo:Cl P w K mg base 5 "_law_good" ["_law_bounds_here","_law_found"] (jb P w K)):
 FnOk P w K mg base CX0 45 f fd ["_law_script"] (mn K T0):=by
 refine F.okb scL fun vs H Q E h=>?_;refine hZq fun q_ e_=>?_;obtain⟨a,ns,rfl,hS,bj,d4,k⟩:=h;subst e_;refine⟨rfl,fun g8 A outer s hr=>?_⟩;have gr:Room 1 _:=hr.mono (by omega)
 have e4:Room 2 _:=hr.mono (by omega)
 have f8:Room 4 _:=hr.mono (by omega)
 have ef:Room 5 _:=hr.mono (by omega)
 have eL:=hr.units;have eR:=zg (Ac (show 30<=64 by decide) _) eL
 have fv:=zg (Ac (show 60<=64 by decide) _) eL
 have nd:=scL.nd
 refine⟨_,ad (psA 1 nd (ak zTs e4 (a0 (pv 0) aa)))
  (ad (psA 2 nd (Dj.pe_newJ (P:=P) (w:=w) rfl rfl))
  (ad (bX PassesOwn.never rfl (bZ rfl B.ra (a0 (av ar rfl B.le PySem.boot_len (a0 (pv 1) aa)) aa)) (pgA 3 nd)
   (ai (Dj.ps_putJ (P:=P) (w:=w) (K:=K) rfl rfl rfl eR (pv 2) (ao aA (pv 1) (pv 3) fun _ _=>rfl) (ak zSh e4 (a0 (pv 0) (a0 (am aS a9 (am cN a9 (pv 3))) aa))) rfl)))
  (ad (psA 4 nd (ak zD gr (a0 (pv 0) (a0 a9 (a0 a9 aa)))))
  (ad (psA 5 nd (ak zBo f8 (a0 (pv 0) (a0 (pv 1) (a0 (pv 2) (a0 (pv 4) aa))))))
  (ad (psA 6 nd (bE dl rfl B.li PyProof.Rows.boot_list (a0 (pv 5) aa)))
  (ad (psA 7 nd (ak zWg hr (a0 (pv 6) aa)))
  (ad (bG (PW.pt (dU (e9 (cD (ak zGo ef (a0 (pv 5) (a0 (pv 7) aa))))) (dU (ax (rQ fv) (pv 6) (pv 5) (ay _)) (fw (PW.pt (dc (ax ci (pv 4) a9 (ay _)) (cZ (ax iF (ao aw (pv 7) a9 fun _ _=>rfl) cM (ay _))))))))) (ai (az eV)) aO)
  (ad (cA (Dj.pe_clearLJ (P:=P) (w:=w) (K:=K) (H0:=H) rfl rfl rfl rfl (ao aw (pv 7) a9 fun _ _=>rfl)))
  (ad (psA 8 nd (uD (pv 5) (cg bu a9)))
  (ad (psA 9 nd (ak zWg hr (a0 (bE dl rfl B.li PyProof.Rows.boot_list (a0 (pv 8) aa)) aa)))
  (ai (az (dg (ak zGo ef (a0 (pv 8) (a0 (pv 9) aa))) (dg (cf ci (ao aw (pv 9) a9 fun _ _=>rfl) (ao aw (pv 7) a9 fun _ _=>rfl) (ay _)) (dA (ak zGo ef (a0 (pv 5) (a0 (ak zWg hr (a0 (pv 6) aa)) aa)))))))))))))))))),?_⟩
 have gI:(20000:Nat)<=sizeLine:=by decide +kernel
 have g3:T5.length=5:=rfl;refine⟨_,rfl,a,ns,rfl,hS,bj,fun lt wt n H1 s1 f7 bx hT n1 n5=>?_⟩;refine aj ?_
 try dsimp only
 have wl:=hT.len;rw[zG]at wl;intro D nD;have sD:=ae (o:=Dj.dJ P w D []) nD;have d0:Dj.DAt P w K (upd H1 D (Dj.dJ P w D [])) D [] (fun _=>zero):=⟨⟨[],⟨a8,fun p m=>(by cases m)⟩, .nil⟩,fun t m=>(by cases m),AK⟩
 have hf:H D=none:=s1.free nD;generalize upd H1 D (Dj.dJ P w D [])=H2 at sD d0 ⊢;refine aj ?_
 try dsimp only
 refine⟨_,rfl,lt,wt,rfl, .inl (SqL.of (sD _ _ bx)),(wt.length:Int),rfl,by omega,by omega,?_⟩
 rw[show((wt.length:Int)).toNat=wt.length by omega]
 refine cV (n:=wt.length) (fun i σ H'=>Same H1 H'/\∃(ks:List Tr) (G:Tr->Fr) (v3:Option V),σ= [some (.ref a),some (.ref lt),some (.ref D),v3,none,none,none,none,none,none]/\Dj.DAt P w K H' D ks G/\(∀t∈ks,t∈T5)/\∀t∈ks,Sh (G t)/\Gf (mW ns) (G t))
  ⟨sD,[],_,none,rfl,d0,(fun t m=>by cases m),fun t m=>by cases m⟩ ?_ ?_
 . intro i σ H3 hi z_;refine hZq fun q_ e_=>?_;obtain⟨s3,ks,G,v3,rfl,a2,d2,hG⟩:=z_;subst e_;rw[Ap];refine aj ?_
   try dsimp only
   have bi:=s1.trans s3;refine⟨_,rfl,_,rfl,2,(i:Int),rfl,rfl, .inl ⟨by decide,by decide⟩,20,2*(i:Int),rfl,rfl,a,ns,20+2*(i:Int),rfl,SqL.same bi hS,bj,by omega,by omega,fun r fr H4 s4 er f3 fB=>?_⟩
   refine hZq fun q_ e_=>?_;obtain⟨y,ey,hy⟩:=hT.get (i:=i) (t:=T5[i]'(by omega)) (by rw[List.getElem?_take_of_lt (by omega),yZ (by omega)])
   have mT:T5[i]'(by omega)∈T5:=A7 _
   obtain⟨ty,dp⟩:=iW _ mT;generalize T5[i]'(by omega)=tm at hy mT ty dp
   obtain⟨bt,rfl⟩:=Dj.tm_ref ty hy;have c4:=s3.trans s4;have em:=a2.same s4;obtain⟨kvs,ek,pr⟩:=em.ex;subst e_;have kl:ks.length<=5:=Fm.sub_len a2.nd d2;have hg:=Paired.length pr;have fb:=hy.mono (Kd.of_same c4);refine⟨_,rfl,_,rfl,_,rfl,lt,wt,(i:Int), .ref bt,rfl,rfl,SqL.of (c4 _ _ bx),aI ey,D,bt,Dj.ktL tm,kvs,rfl,rfl,ek,Dj.key_tm ty dp fb,by omega,?_⟩
   have fM:=em.put (f:=fr) ty dp fb (aP er) ek fun _=>pr;refine⟨aH nD c4,_,_,_,rfl,fM,fun t mt=>?_,fun t mt=>?_⟩
   . rcases addK_mem.mp mt with mt|rfl
     . exact d2 t mt
     . exact mT
   . unfold Dj.setG;by_cases e:t=tm
     . rw[if_pos e];exact⟨f3,fB⟩
     . rw[if_neg e];rcases addK_mem.mp mt with mt|mt
       . exact hG t mt
       . exact absurd mt e
 . intro σ H3 z_;refine hZq fun q_ e_=>?_;obtain⟨s3,us,G,v3,rfl,a2,d2,hG⟩:=z_;subst e_;have bi:=s1.trans s3;have dj:=SqL.same bi hS;refine⟨_,rfl,a,ns,3,4,rfl,dj,bj,by decide,by decide,by decide,fun way w0 w4 ew=>?_⟩
   refine aj ?_
   try dsimp only
   refine⟨_,rfl,_,rfl,_,rfl,_,rfl,a,ns,lt,wt,n,D,us,G,way,rfl,dj,bj,s3 _ _ bx,hT.mono (Kd.of_same s3),n1,n5,a2,hG,ew,w0,w4,fun lb bvs bs H4 s4 g5 fg hB hU b8 e0=>?_⟩;refine aj ?_
   try dsimp only
   have fm:=bi.trans s4;have bl:=hB.len;rw[yY]at bl;have gz:=d4.same fm;have d6:∀b∈bs,∀p∈b.ps,Sh p.2:=fun b mb p mp=>((hU b mb).gq p mp).sh;clear hT bx a2 dj hS wl d0 f7;refine⟨_,rfl,lb,bvs,rfl, .inl (SqL.of fg),fun lh gk=>?_⟩;have s5:=ae (o:= .lst bvs) gk;have bB:=a8 (H:=H4) (a:=lh) (o:= .lst bvs);generalize upd H4 lh (.lst bvs)=H5 at s5 bB ⊢;refine aj ?_
   try dsimp only
   have d8:=fm.trans s5;have bC:=s5 _ _ fg;have e7:=hB.mono (Kd.of_same s5);refine⟨_,rfl,dP (iY bB e7 hU b8 (d4.same d8) fun r H6 kn ej gS hK=>?_)⟩;refine aj ?_
   try dsimp only
   refine hZq fun q_ e_=>?_;obtain⟨g7,eu⟩:=(d4.same d8).tbl;have nT:∀ {x:Addr} {o:HO},H5 x=some o->(∀p,o≠ .tbl p)->H6 x=some o:=fun{x o} e n=>ej _ _ (fun z=>by rw[z,eu]at e;exact n _ (ze e).symm) e
   have aT:=nT bC (by intro p z;cases z)
   have bR:=nT bB (by intro p z;cases z)
   have ea:=e7.mono (jt eu ej);obtain⟨y,ed,el,eG,hk⟩:=hK;have dV:lb≠y:=fun z=>eG bvs (by rw[<-z];exact bC)
   have eg:lh≠y:=fun z=>eG bvs (by rw[<-z];exact bB)
   have fq:way=3->kn= "numbers":=fun z=>by
    rcases hk with⟨e,_⟩|⟨_,⟨l,wv,wk,g,_,_,_,a7,_⟩,_⟩
    . exact e
    . exact(never d6 (e0 z) a7).elim
   obtain⟨pb,db⟩:=tM hU;subst e_;refine bP (fun σ' H7=>σ'= [some (.ref a),some (.ref lt),some (.ref D),v3,some (.int way),some (.ref lb),some (.ref lh),some (.ref r),none,none]/\Aft P w H6 H7 y kn) ?_ fun nx a5=>?_;rotate_left
   . refine⟨_,rfl,_,rfl,dP (i5 aT ea hU b8 ed hk fun H7 j=>?_)⟩;refine⟨true,rfl,?_⟩;refine iteF ?_;have au:=j.but _ _ dV aT;have ac:=j.but _ _ eg bR;have a1:=ea.mono j.kd;have aC:H7 r=some (.tup [.str (Str.ofString kn), .ref y]):=j.kd.1 _ _ ed;refine⟨_,rfl,_,rfl,lh,lb,bvs,bvs,bs.map bdT,bs.map bdT,rfl,rfl,ac,au,a1,a1, .inl pb,by omega,?_⟩
     rw[eqTs_refl];refine⟨_,rfl,?_⟩;refine iteF ?_;refine⟨_,rfl,rfl,_,rfl,?_⟩;refine ite2 (fun c=>?_) fun _=>iteF (a5 _ _ ⟨rfl,j⟩)
     have w3:way=3:=by
      have:=of_decide_eq_true c;injection this
     refine⟨_,rfl,r,_,0,_,rfl,rfl,SqT.of aC,rfl,rfl,_,rfl,?_⟩;refine ite2 (fun c=>absurd c (by rw[fq w3];simp)) fun _=>a5 _ _ ⟨rfl,j⟩
   rintro σ' H7 ⟨rfl,j⟩;have au:=j.but _ _ dV aT;have ac:=j.but _ _ eg bR;have a1:=ea.mono j.kd;have aC:H7 r=some (.tup [.str (Str.ofString kn), .ref y]):=j.kd.1 _ _ ed
   have gv:r≠y:=fun z=>by
    obtain⟨o,ho,no⟩:=j.ob;rw[<-z,aC]at ho;exact no _ (ze ho).symm
   refine bP (fun σ' H8=>σ'= [some (.ref a),some (.ref lt),some (.ref D),v3,some (.int way),some (.ref lb),some (.ref lh),some (.ref r),none,none]/\Kd H7 H8/\∃o8,H8=upd H7 y o8) ?_ fun nx a5=>?_;rotate_left
   . refine⟨_,rfl,r,_,1, .ref y,rfl,rfl,SqT.of aC,rfl,y,rfl,?_⟩;rcases id j with⟨_,s7,xs,hy⟩|⟨en,b7,_,o,kvs,hy⟩
     . exact .inl ⟨xs,s7 _ _ hy,a5 _ _ ⟨rfl,Kd.upd (s7 _ _ hy),_,rfl⟩⟩
     . refine .inr ⟨o,kvs,hy,?_,a5 _ _ ⟨rfl,sP (y:=y) (fun x u n e=>by rw[ag n];exact e) hy (fun xs z=>by cases z) (fun xs z=>by cases z),_,rfl⟩⟩
       rcases hk with⟨_,_,h0⟩|⟨e,_⟩
       . exact d8.free h0
       . rw[en]at e;exact absurd e (by decide)
   intro σ' H8 z_;refine hZq fun q_ e_=>?_;obtain⟨rfl,eH,o8,e8⟩:=z_;subst e_
   have bw:∀ {x:Addr} {o:HO},x≠y->H7 x=some o->H8 x=some o:=fun{x o} n e=>by
    rw[e8,ag n];exact e
   have et:Lm T0 H8:=by
    rw[e8];exact j.lms el o8
   have bY:=bw dV au;have e6:=bw eg ac;have f4:=a1.mono eH;have gl:=bw gv aC;clear e8 bw eH a1 aC ac au j;refine⟨_,rfl,(1:Int),rfl,lb,bvs,rfl,rfl,SqL.of bY,fun lv gs=>?_⟩;have s9:=ae (o:= .lst bvs.reverse) gs;have ec:=a8 (H:=H8) (a:=lv) (o:= .lst bvs.reverse);generalize upd H8 lv (.lst bvs.reverse)=H9 at s9 ec ⊢;refine aj ?_
   try dsimp only
   refine⟨_,rfl,lv,bvs.reverse,rfl, .inl (SqL.of ec),fun lw gp=>?_⟩;have d7:=ae (o:= .lst bvs.reverse) gp;have fa:=a8 (H:=H9) (a:=lw) (o:= .lst bvs.reverse);generalize upd H9 lw (.lst bvs.reverse)=ez at d7 fa ⊢;have q:=s9.trans d7;have a3:=et.same q;have b6:=f4.mono (Kd.of_same q)
   have eo:TrsAt ez bvs.reverse (bs.reverse.map bdT):=by
    rw[List.map_reverse];exact TrsAt.rev b6
   have eT:∀b∈bs.reverse,Ub ns b:=fun b mb=>hU b (List.mem_reverse.mp mb);have r8:bs.reverse.length<=8:=by rw[List.length_reverse];exact b8
   have a6:=q _ _ bY;have a4:=q _ _ e6;have fh:=q _ _ gl;have d9:=d7 _ _ ec;refine dP (iY fa eo eT r8 a3 fun r' fC gh cp f2 fR=>?_);refine aj ?_
   try dsimp only
   refine hZq fun q_ e_=>?_;obtain⟨g1,cm⟩:=a3.tbl;have bg:∀ {x:Addr} {o:HO},ez x=some o->(∀p,o≠ .tbl p)->fC x=some o:=fun{x o} e n=>cp _ _ (fun z=>by rw[z,cm]at e;exact n _ (ze e).symm) e
   have cb:=jt cm cp;obtain⟨y',bF,c2,cd,eb⟩:=fR;subst e_
   have f1:gh=kn:=by
    have m1:∀g,Met g bs->Met g bs.reverse:=fun g h b mb=>h b (List.mem_reverse.mp mb);have m2:∀g,Met g bs.reverse->Met g bs:=fun g h b mb=>h b (List.mem_reverse.mpr mb);rcases hk with⟨e,⟨d,f0,G',x',D',_,_,_,_,_,hM⟩,_⟩|⟨e,⟨l,wv,wk,g,_,_,_,a7,_⟩,_⟩
    . rcases eb with⟨e',_⟩|⟨_,⟨l,wv,wk,g,_,_,_,a7,_⟩,_⟩
      . rw[e,e']
      . exact(never (fun b mb=>d6 b (List.mem_reverse.mp mb)) (m1 _ hM) a7).elim
    . rcases eb with⟨_,⟨d,f0,G',x',D',_,_,_,_,_,hM⟩,_⟩|⟨e',_⟩
      . exact(never d6 (m2 _ hM) a7).elim
      . rw[e,e']
   subst f1;have ee:=bg d9 (by intro p z;cases z)
   have d5:=bg a6 (by intro p z;cases z)
   have dH:=bg a4 (by intro p z;cases z)
   have d3:=bg fh (by intro p z;cases z)
   refine⟨_,rfl,_,rfl,dP (i5 ee (eo.mono cb) eT r8 bF eb fun f6 j=>?_)⟩;refine⟨_,rfl,?_⟩;refine iteT ?_;have eB:=j.kd.1 _ _ bF;have dI:=j.kd.1 _ _ d3;refine⟨_,rfl,r',_,0,_,rfl,rfl,SqT.of eB,rfl,_,rfl,r,_,0,_,rfl,rfl,SqT.of dI,rfl,rfl,_,rfl,?_⟩;rw[decide_eq_true rfl];refine iteT ?_;have ev:lb≠y':=fun z=>cd bvs (by rw[<-z];exact a6)
   have eq:lh≠y':=fun z=>cd bvs (by rw[<-z];exact a4)
   have v:=j.but _ _ ev d5;have c3:=j.but _ _ eq dH;have cI:=(b6.mono cb).mono j.kd;have bb:Lm T0 f6:=j.lm c2;refine⟨_,rfl,_,rfl,dP (iY c3 cI hU b8 bb fun r3 g4 g6 bT gn f5=>?_)⟩;refine hZq fun q_ e_=>?_;obtain⟨g0,bI⟩:=bb.tbl;obtain⟨y3,e3,_,_,gm⟩:=f5;subst e_;refine dP ?_;exact i5 (bT _ _ (fun z=>by rw[z,bI]at v;cases v) v) (cI.mono (jt bI bT)) hU b8 e3 gm fun gb _=>k gb
end
end K39
namespace K39
open PySem L2 Mth Wd
theorem ex0{n:Nat}(us:List Value)(hl:us.length=n+1):∃a vs,us=a::vs/\vs.length=n:=by
 cases us with
 |nil=>cases hl
 |cons a vs=>exact⟨a,vs,rfl,Nat.succ.inj hl⟩
theorem ex1(us:List Value)(hl:us.length=1):∃a,us= [a]:=by
 obtain⟨a,vs,rfl,h⟩:=ex0 us hl;exact⟨a,by rw[List.eq_nil_of_length_eq_zero h]⟩
theorem ex2(us:List Value)(hl:us.length=2):∃a b,us= [a,b]:=by
 obtain⟨a,vs,rfl,h⟩:=ex0 us hl;obtain⟨b,rfl⟩:=ex1 vs h;exact⟨a,b,rfl⟩
theorem ex3(us:List Value)(hl:us.length=3):∃a b c,us= [a,b,c]:=by
 obtain⟨a,vs,rfl,h⟩:=ex0 us hl;obtain⟨b,c,rfl⟩:=ex2 vs h;exact⟨a,b,c,rfl⟩
theorem ex4(us:List Value)(hl:us.length=4):∃a b c d,us= [a,b,c,d]:=by
 obtain⟨a,vs,rfl,h⟩:=ex0 us hl;obtain⟨b,c,d,rfl⟩:=ex3 vs h;exact⟨a,b,c,d,rfl⟩
theorem all_mk{l:PySem.W.OpenLaw}{w:World}{K:PySem.W.Frag}{h:Heap}{mg:Str->Option Value}{fa:Addr}(X:K.In h)(G:h.Ns mainGlobals mg)(hfa:mg "law"=some (.ref fa)){T0 c0:Addr}{fLB:Addr}{odLB anLB:Option Addr}{slLB:Array (Option Value)}{ocLB kVLB dcLB pmLB ctLB:Value}{fCD fFR fBR fST fTO fSE fTM fSH fSC fWH fCT fIS fSL fTU fTD fRE fWA fHC fWB fLI fSP fTL fNU fWG fDR fLW fLP fLT fVA fTS fSR fSU fBO fIF fNM fWT fGO fLA:Addr}{dCD dFR dBR dST dTO dSE dTM dSH dSC dWH dCT dIS dSL dTU dTD dRE dWA dHC dWB dLI dSP dTL dNU dWG dDR dLW dLP dLT dVA dTS dSR dSU dBO dIF dNM dWT dGO dLA:FuncData}{C fI:Addr}{odI anI:Option Addr}{slI:Array (Option Value)}{ocI kVI dcI pmI cdI ctI:Value}(hCD:FH K "common_divisor" sCd fCD dCD)(hFR:FH K "fraction" sFr fFR dFR)(hBR:FH K "bracketed" sBr fBR dBR)(hST:FH K "shown_term" sSt fST dST)(hTO:FH K "table_of" sTof fTO dTO)(hSE:FH K "settle" sSet fSE dSE)(hTM:FH K "terms_of" sTmo fTM dTM)(hSH:FH K "shares_in" sShi fSH dSH)(hSC:FH K "scale_of" sSco fSC dSC)(hWH:FH K "whole_of" sWho fWH dWH)(hCT:FH K "counts_of" sCto fCT dCT)(hIS:FH K "is_slack" sIsl fIS dIS)(hSL:FH K "slack_lines" sSll fSL dSL)(hTU:FH K "turn" sTur fTU dTU)(hTD:FH K "turned" sTud fTD dTD)(aLB:PySem.W.nsIn K mainGlobals "least_by"=some (some (.ref fLB)))(lLB:K.lookup fLB=some ⟨ocLB,odLB, .func (PySem.W.fnOf "least_by" "least_by" (b9 sLby) (aM sLby) (ah sLby) .none kVLB dcLB pmLB anLB (.ref c0) ctLB),slLB⟩)(cLB:PySem.W.codeIn K (.ref c0) "least_by"=true)(kLB:PySem.W.keepIn K (.ref fLB)=true)(hRE:FH K "refuted" sRef fRE dRE)(hWA:FH K "weights_against" sWag fWA dWA)(hHC:FH K "head_counts" sHco fHC dHC)(hWB:FH K "weights_by" sWby fWB dWB)(hLI:FH K "line_of" sLio fLI dLI)(hSP:FH K "strict_point" sStr fSP dSP)(hTL:FH K "term_lines" sTli fTL dTL)(hNU:FH K "numbers_at" sNua fNU dNU)(hWG:FH K "weighed" sWgd fWG dWG)(hDR:FH K "_law_draw" qQ fDR dDR)(hLW:FH K "_law_least" la fLW dLW)(hLP:FH K "_law_plus" lg fLP dLP)(hLT:FH K "_law_times" je fLT dLT)(hVA:FH K "_law_value" jd fVA dVA)(hTS:FH K "_law_terms" fo fTS dTS)(hSR:FH K "_law_share" l9 fSR dSR)(hSU:FH K "_law_sum" qL fSU dSU)(hBO:FH K "_law_bounds" jf fBO dBO)(hIF:FH K "_law_is_fraction" qN fIF dIF)(hNM:FH K "_law_numbers" gO fNM dNM)(hWT:FH K "_law_weights" gN fWT dWT)(hGO:FH K "_law_good" qP fGO dGO)(hLA:FH K "law" sLaw fLA dLA)(aTB:PySem.W.nsIn K mainGlobals "Table"=some (some (.ref C)))(iI:PySem.W.findIn K (.ref C) "__init__"=some (some (.ref fI)))(fnI:PySem.W.isFn K (.ref fI)=true)(lI:K.lookup fI=some ⟨ocI,odI, .func (PySem.W.fnOf "__init__" "Table.__init__" (b9 iE) (aM iE) (ah iE) .none kVI dcI pmI anI cdI ctI),slI⟩)(cI:PySem.W.codeIn K cdI "Table.__init__"=true)(kI:PySem.W.keepIn K (.ref fI)=true)(kC:PySem.W.keepIn K (.ref C)=true)(qM:PySem.W.makesIn K C=true)(qG:PySem.W.plainGet K C Str.empty=true)(qD:PySem.W.hasDictIn K C=true)(qO:PySem.W.plainOver K C=true)(qS:PySem.W.findIn K (.ref C) "__setattr__"=some (some (.builtin "object.__setattr__")))(q_terms:PySem.W.findIn K (.ref C) "terms"=some none)(q_scales:PySem.W.findIn K (.ref C) "scales"=some none)(q_lines:PySem.W.findIn K (.ref C) "lines"=some none)(q_bottom:PySem.W.findIn K (.ref C) "bottom"=some none)(q_sides:PySem.W.findIn K (.ref C) "sides"=some none)(q_heads:PySem.W.findIn K (.ref C) "heads"=some none)(z_abs:PySem.W.nsIn K mainGlobals "abs"=some none)(z_len:PySem.W.nsIn K mainGlobals "len"=some none)(z_range:PySem.W.nsIn K mainGlobals "range"=some none)(z_isinstance:PySem.W.nsIn K mainGlobals "isinstance"=some none)(z_tuple:PySem.W.nsIn K mainGlobals "tuple"=some none)(z_int:PySem.W.nsIn K mainGlobals "int"=some none)(z_bool:PySem.W.nsIn K mainGlobals "bool"=some none)(z_list:PySem.W.nsIn K mainGlobals "list"=some none)(z_str:PySem.W.nsIn K mainGlobals "str"=some none)(z_all:PySem.W.nsIn K mainGlobals "all"=some none)(z_any:PySem.W.nsIn K mainGlobals "any"=some none)(z_sum:PySem.W.nsIn K mainGlobals "sum"=some none)(z_zip:PySem.W.nsIn K mainGlobals "zip"=some none)(z_sorted:PySem.W.nsIn K mainGlobals "sorted"=some none)(z_ValueError:PySem.W.nsIn K mainGlobals "ValueError"=some none)(z_repr:PySem.W.nsIn K mainGlobals "repr"=some none)(z_enumerate:PySem.W.nsIn K mainGlobals "enumerate"=some none)(z_max:PySem.W.nsIn K mainGlobals "max"=some none)(z_min:PySem.W.nsIn K mainGlobals "min"=some none)(z_dict:PySem.W.nsIn K mainGlobals "dict"=some none)(xT:PySem.W.codeHdIn K c0 T0=true)(xN:K.lookup T0=none):
 ∃c0:Addr,K.lookup T0=none/\PySem.W.codeHdIn K c0 T0=true/\∃fd:FuncData,(∀(s:Shared) (v:Value),BindsTo s fd ⟨[v],[]⟩ [("_law_script",v)])/\∀base:Heap,K.In base->base.Ns mainGlobals mg->base.BuiltinsAt mg T0->FnOk l.prog w K mg base CX0 45 fa fd ["_law_script"] (mn K T0):=by
 have e:=hfa.symm.trans (PySem.W.mg_of X G hLA.ns);cases e;refine hZq fun q_ e_=>?_;obtain⟨_,_,af,q,r,x,u,m,_,rfl,c3,c4⟩:=hLA.ex;subst e_;have B:Blt mg:=⟨PySem.W.mg_none_of X G z_abs,PySem.W.mg_none_of X G z_len,PySem.W.mg_none_of X G z_range,PySem.W.mg_none_of X G z_isinstance,PySem.W.mg_none_of X G z_tuple,PySem.W.mg_none_of X G z_int,PySem.W.mg_none_of X G z_bool,PySem.W.mg_none_of X G z_list,PySem.W.mg_none_of X G z_str,PySem.W.mg_none_of X G z_all,PySem.W.mg_none_of X G z_any,PySem.W.mg_none_of X G z_sum,PySem.W.mg_none_of X G z_zip,PySem.W.mg_none_of X G z_sorted,PySem.W.mg_none_of X G z_ValueError,PySem.W.mg_none_of X G z_repr,PySem.W.mg_none_of X G z_enumerate,PySem.W.mg_none_of X G z_max,PySem.W.mg_none_of X G z_min⟩;have FI:=xG (st:=iE) lI cI kI;have bI:=FI.binds (ps:= ["self","terms","scales","lines"]) fun _ _ _ _ _ _ us hl=>by obtain⟨_,_,_,_,rfl⟩:=ex4 us hl;rfl
 have cd:=PySem.W.mg_of X G aTB;have hC:Tk K C:=⟨⟨qG,qD,qO,qS⟩,q_terms,q_scales,q_lines,q_bottom,q_sides,q_heads⟩;have hM:Mk K C fI:=⟨qM,iI,fnI,kC⟩;have bb:FunC K "least_by" "least_by" sLby fLB _ c0:=⟨⟨_,_,_,_,_,_,_,_,rfl,lLB,cLB⟩⟩;have i:Binds K _ ["one","other"] []:=hCD.b2;have f:=PySem.W.mg_of X G hCD.ns;have c2:Binds K _ ["words"] []:=hBR.b1;have bC:=PySem.W.mg_of X G hBR.ns;have bw:Binds K _ ["term"] []:=hST.b1;have bF:=PySem.W.mg_of X G hST.ns;have o:FH K _ sLby _ _:= .mk' aLB lLB cLB kLB;refine⟨c0,xN,xT,PySem.W.fnOf "law" "law" (b9 sLaw) (aM sLaw) (ah sLaw) .none af q r x u m,fun s v=> .of_eq rfl,fun base _ _ hB=>?_⟩;have p:Cl l.prog w K mg base 2 _ _ mD:=hFR.c X G hFR.b2 (x4 hFR.fn hCD.fn i f B);have z:Cl l.prog w K mg base 41 _ _ (spSt 40):=hST.c X G hST.b1 (yI hST.fn bw bF hBR.fn c2 bC 40);have a4:Cl l.prog w K mg base 1 _ _ qu:=hSH.c X G hSH.b1 (wO hSH.fn);have a5:Cl l.prog w K mg base 2 _ _ qz:=hSC.c X G hSC.b1 (wQ hSC.fn hCD.fn i f B);have n:Cl l.prog w K mg base 1 _ _ me:=hWH.c X G hWH.b2 (wC hWH.fn);have bj:Cl l.prog w K mg base 42 _ _ qm:=hTM.c X G hTM.b1 (wK hTM.fn B z);have aT:Cl l.prog w K mg base 42 _ _ qI:=hCT.c X G hCT.b3 (xa hCT.fn z n);have bY:Cl l.prog w K mg base 1 _ _ (qF (K:=K)):=hIS.c X G hIS.b2 (wY hIS.fn B);have j:Cl l.prog w K mg base 2 _ _ (jS (K:=K)):=hSL.c X G hSL.b1 (wN hSL.fn B bY);have au:Cl l.prog w K mg base 1 _ _ (qh (K:=K)):=hTD.c X G hTD.b5 (wI hTD.fn B);have k:Cl l.prog w K mg base 2 _ _ (ml (K:=K)):=hTU.c X G hTU.b3 (wH hTU.fn B au);have a3:Cl l.prog w K mg base 2 _ _ (qE (K:=K) T0):=o.c X G o.b2 (wW bb B xT hB);have gI:FnOk l.prog w K mg base CX0 1 fI _ ["self","terms","scales","lines"] (kY (K:=K) C):=uH FI B;have b7:Cl l.prog w K mg base 3 _ _ (qw (K:=K)):=hSE.c X G hSE.b1 (wP hSE.fn B j k);have bg:Cl l.prog w K mg base 1 _ _ (qH (K:=K)):=hHC.c X G hHC.b2 (x3 hHC.fn B);have a1:Cl l.prog w K mg base 3 _ _ (qe (K:=K)):=hWB.c X G hWB.b3 (wE hWB.fn B p);have bR:Cl l.prog w K mg base 4 _ _ (qg (K:=K)):=hWA.c X G hWA.b2 (wF hWA.fn B bg hCD.fn i f a1);have a7:Cl l.prog w K mg base 5 _ _ (qA (K:=K) T0):=hRE.c X G hRE.b1 (wR hRE.fn B j a3 bR k);have aC:Cl l.prog w K mg base 1 _ _ (qC (K:=K)):=hLI.c X G hLI.b2 (wV hLI.fn B);have b8:Cl l.prog w K mg base 2 _ _ (qp (K:=K)):=hTL.c X G hTL.b1 (wL hTL.fn B aC);have cm:Cl l.prog w K mg base 3 _ _ (qt (K:=K)):=hSP.c X G hSP.b1 (wM hSP.fn B j b8);have bi:Cl l.prog w K mg base 3 _ _ (qB (P:=l.prog) (w:=w) (K:=K)):=hNU.c X G hNU.b2 (wS hNU.fn B p);have bT:Cl l.prog w K mg base 43 _ _ (qk C):=hTO.c X G hTO.b2 (wJ hTO.fn B hC bj a5 a4 aT n hM gI bI cd b7);have b6:Cl l.prog w K mg base 44 _ _ (mh l.prog w K T0):=hWG.c X G hWG.b1 (wD hWG.fn hC bT a7 bi cm);have b:Cl l.prog w K mg base 1 _ _ (dY K):=hDR.c X G hDR.b3 (uK hDR.fn B);have a:Cl l.prog w K mg base 1 _ _ gJ:=hLW.c X G hLW.b2 (wU hLW.fn B);have g:Cl l.prog w K mg base 2 _ _ eP:=hLP.c X G hLP.b2 (rV hLP.fn a);have t:Cl l.prog w K mg base 2 _ _ eO:=hLT.c X G hLT.b2 (oB hLT.fn a);have y:Cl l.prog w K mg base 3 _ _ (mj l.prog w K):=hVA.c X G hVA.b2 (wG hVA.fn t g)
 have bB:Cl l.prog w K mg base 2 _ _ (ja K):=hTS.c X G hTS.b1 (rS hTS.fn b);have d:Cl l.prog w K mg base 2 _ _ (eN K):=hSR.c X G hSR.b2 (rT hSR.fn B b a);have a6:Cl l.prog w K mg base 3 _ _ (spSu K):=hSU.c X G hSU.b3 (uI hSU.fn B b d);have cp:Cl l.prog w K mg base 4 _ _ (gK l.prog w K):=hBO.c X G hBO.b4 (oC hBO.fn B b a d g a6 y);have ac:Cl l.prog w K mg base 2 _ _ mw:=hIF.c X G hIF.b1 (wZ hIF.fn B a);have cb:Cl l.prog w K mg base 4 _ _ (kZ l.prog w K):=hNM.c X G hNM.b2 (lF hNM.fn B y ac);have bx:Cl l.prog w K mg base 3 _ _ pZ:=hWT.c X G hWT.b2 (lE hWT.fn B ac t g);have a2:Cl l.prog w K mg base 5 _ _ (jb l.prog w K):=hGO.c X G hGO.b2 (uJ hGO.fn B (PySem.W.mg_none_of X G z_dict) cb bx);exact wX hLA.fn B bB d b cp b6 a2
theorem walk{l:PySem.W.OpenLaw}{q:Program}{loose:List Str}{XP:(Str->Option Value)->Heap->Prop}{YP:World->Heap->Prop}{d:DefRec}{K:Params->PySem.W.Frag}{T0:Addr}(hn:l.most=some 63)(hdf:d.params.defaults= [])(hY:∀(w:World) (h:Heap),YP w h->(K w.params).In h)(hYT:∀(w:World) (h:Heap),YP w h->h.get? T0=some (PySem.W.tabObj #[]))(F:∀(w:World) (mg:Str->Option Value) (fa:Addr) (h:Heap),(K w.params).In h->h.Ns mainGlobals mg->mg d.name=some (.ref fa)->
  ∃c0:Addr,(K w.params).lookup T0=none/\PySem.W.codeHdIn (K w.params) c0 T0=true/\∃fd:FuncData,(∀(s:Shared) (u:Value),BindsTo s fd ⟨[u],[]⟩ [("_law_script",u)])/\∀base:Heap,(K w.params).In base->base.Ns mainGlobals mg->base.BuiltinsAt mg T0->FnOk l.prog w (K w.params) mg base CX0 45 fa fd ["_law_script"] (mn (K w.params) T0)):
 PySem.W.WalkO q loose XP YP l.row.toRowW d [] (fun f vs=>PySem.call f vs):=
 L2.walk_ofT (n:=63) (k:=45) (x:="_law_script") (CX:=fun _=>CX0) (sp:=fun w T0=>mn (K w.params) T0) hn (by decide) hdf ⟨rfl,by decide,by decide,rfl⟩ hY hYT F (fun _ _ a ns hl b c=>⟨a,ns,rfl,c,hl, .inl b,fun _=>rfl⟩) fun _ _ _ _ _ z=>z
end K39
namespace PySem.W.Fast
def tw12245341107412301311:True:=⟨⟩
def tw5759200944230736456:True:=⟨⟩
def tw14121784639006834573:True:=⟨⟩
def tw3842646114736495807:True:=⟨⟩
def tw15126329197650476693:True:=⟨⟩
def tw15145735496189314103:True:=⟨⟩
def tw17772792152050066471:True:=⟨⟩
def tw896770126861072114:True:=⟨⟩
def tw5898979171245004586:True:=⟨⟩
def tw11880518655714077343:True:=⟨⟩
def tw7915380336543299352:True:=⟨⟩
def tw10292224425703215309:True:=⟨⟩
def tw15142128866667633036:True:=⟨⟩
def tw8725919251386214524:True:=⟨⟩
def tw7901863755178960697:True:=⟨⟩
def tw2213863360775655950:True:=⟨⟩
def tw1628500550450739750:True:=⟨⟩
def tw16584831142924543238:True:=⟨⟩
def tw12576708606535617107:True:=⟨⟩
def tw7241848639344565098:True:=⟨⟩
def tw5971169913606102857:True:=⟨⟩
def tw14104584211234919025:True:=⟨⟩
def tw16048583600667518342:True:=⟨⟩
def tw18439982543161133484:True:=⟨⟩
def tw10784573208900743275:True:=⟨⟩
def tw13290019454562667599:True:=⟨⟩
def tw12276917492090824031:True:=⟨⟩
def tw1349725848002346713:True:=⟨⟩
def tw16166788431060831144:True:=⟨⟩
def tw18094720461580851368:True:=⟨⟩
def tw3368736431031201740:True:=⟨⟩
def tw17358010041635254892:True:=⟨⟩
def tw6124910482615757784:True:=⟨⟩
def tw16144966590511330165:True:=⟨⟩
def tw3246886803686423872:True:=⟨⟩
def tw10497034659079484528:True:=⟨⟩
def tw948703580109830787:True:=⟨⟩
def tw5056280900944957234:True:=⟨⟩
def tw6112340923971904151:True:=⟨⟩
def tw5826106930030178675:True:=⟨⟩
def tw6220105948193894733:True:=⟨⟩
def tw6986148267455767261:True:=⟨⟩
def tw14119296843385833932:True:=⟨⟩
def tw14827783503566469725:True:=⟨⟩
def tw2425999552630682027:True:=⟨⟩
def tw8853395075460397510:True:=⟨⟩
def tw11201504367387317920:True:=⟨⟩
def tw312722298561207610:True:=⟨⟩
def tw14122915855460204495:True:=⟨⟩
def tw13760105048974481175:True:=⟨⟩
def tw10046124460363272568:True:=⟨⟩
def tw7780408791981978064:True:=⟨⟩
def tw16137652008901507055:True:=⟨⟩
def tw16343311158341003470:True:=⟨⟩
def tw17383262761081955531:True:=⟨⟩
def tw16708981458383358320:True:=⟨⟩
def tw10939316140374805617:True:=⟨⟩
def tw15739358282971847389:True:=⟨⟩
def tw15356952076010461950:True:=⟨⟩
def tw6411562773061917030:True:=⟨⟩
def tw7830522410776331516:True:=⟨⟩
def tw3271979668884358029:True:=⟨⟩
def tw16692218620928780255:True:=⟨⟩
def tw3118265895569790466:True:=⟨⟩
def tw14362580167094479847:True:=⟨⟩
def tw16522020447149780099:True:=⟨⟩
def tw16752097216025174030:True:=⟨⟩
def tw7679860486233781540:True:=⟨⟩
def tw18252552021773220272:True:=⟨⟩
def tw7987988298153148918:True:=⟨⟩
def tw13188906389044863170:True:=⟨⟩
def tw3322046699234033979:True:=⟨⟩
def tw15517247914156298385:True:=⟨⟩
def tw12035785803001938033:True:=⟨⟩
def tw9838149419096249250:True:=⟨⟩
def tw16467871950007357245:True:=⟨⟩
def tw736713487258923313:True:=⟨⟩
def tw12545854335467749798:True:=⟨⟩
def tw6596174397647970616:True:=⟨⟩
def tw4185064190583538216:True:=⟨⟩
def tw6000842128243368901:True:=⟨⟩
def tw6640842874827289452:True:=⟨⟩
def tw16464376695573739695:True:=⟨⟩
def tw1147279285977058270:True:=⟨⟩
def tw16981131209755504644:True:=⟨⟩
def tw12350123199805869526:True:=⟨⟩
def tw5114152283952433759:True:=⟨⟩
def tw15257004593025895092:True:=⟨⟩
def tw8912259432260873701:True:=⟨⟩
def tw11137678668049956120:True:=⟨⟩
def tw188998399301323530:True:=⟨⟩
def tw9734789023175127793:True:=⟨⟩
def tw18097590133105388209:True:=⟨⟩
def tw18428180622032484838:True:=⟨⟩
def tw13770552256461552762:True:=⟨⟩
def tw13826483987569267051:True:=⟨⟩
def tw12578878957953064103:True:=⟨⟩
def tw18086696837046614044:True:=⟨⟩
def tw8660702640799148378:True:=⟨⟩
def tw61957808291865478:True:=⟨⟩
def tw15374761966926928746:True:=⟨⟩
def tw11963939217376542986:True:=⟨⟩
def tw810545100434709503:True:=⟨⟩
def tw1531924166000175220:True:=⟨⟩
def tw10938042213384378187:True:=⟨⟩
def tw7582378033806602155:True:=⟨⟩
def tw13003273326729911759:True:=⟨⟩
def tw16762309726809189918:True:=⟨⟩
def tw3495962517836092717:True:=⟨⟩
end PySem.W.Fast
open PySem PySem.W PyProof.Rows
set_option maxRecDepth 100000 in
set_option maxHeartbeats 0 in
theorem PySem.Challenge.cw_smallword_k39_whole_bounds_weighed_holds : PySem.Challenge.rw_smallword_k39_whole_bounds_weighed.Holds := by
  w_on; o_law; k_head; (case hw => w_witness2)
  k_fill
  refine K39.walk (l := PySem.Challenge.rw_smallword_k39_whole_bounds_weighed) (T0 := _) rfl rfl (fun w h Y => PySem.W.km_in_of Y) (fun w h Y => PySem.W.km_tabs_of Y _ (by first | exact List.mem_cons_self | decide)) ?F
  case F =>
    intro w mg c h b G a;refine' K39.all_mk b G a (.mk' ?_ ?_ ?_ ?_) (.mk' ?_ ?_ ?_ ?_) (.mk' ?_ ?_ ?_ ?_) (.mk' ?_ ?_ ?_ ?_) (.mk' ?_ ?_ ?_ ?_) (.mk' ?_ ?_ ?_ ?_) (.mk' ?_ ?_ ?_ ?_) (.mk' ?_ ?_ ?_ ?_) (.mk' ?_ ?_ ?_ ?_) (.mk' ?_ ?_ ?_ ?_) (.mk' ?_ ?_ ?_ ?_) (.mk' ?_ ?_ ?_ ?_) (.mk' ?_ ?_ ?_ ?_) (.mk' ?_ ?_ ?_ ?_) (.mk' ?_ ?_ ?_ ?_) ?_ ?_ ?_ ?_ (.mk' ?_ ?_ ?_ ?_) (.mk' ?_ ?_ ?_ ?_) (.mk' ?_ ?_ ?_ ?_) (.mk' ?_ ?_ ?_ ?_) (.mk' ?_ ?_ ?_ ?_) (.mk' ?_ ?_ ?_ ?_) (.mk' ?_ ?_ ?_ ?_) (.mk' ?_ ?_ ?_ ?_) (.mk' ?_ ?_ ?_ ?_) (.mk' ?_ ?_ ?_ ?_) (.mk' ?_ ?_ ?_ ?_) (.mk' ?_ ?_ ?_ ?_) (.mk' ?_ ?_ ?_ ?_) (.mk' ?_ ?_ ?_ ?_) (.mk' ?_ ?_ ?_ ?_) (.mk' ?_ ?_ ?_ ?_) (.mk' ?_ ?_ ?_ ?_) (.mk' ?_ ?_ ?_ ?_) (.mk' ?_ ?_ ?_ ?_) (.mk' ?_ ?_ ?_ ?_) (.mk' ?_ ?_ ?_ ?_) (.mk' ?_ ?_ ?_ ?_) (.mk' ?_ ?_ ?_ ?_) ?_ ?_ ?_ ?_ ?_ ?_ ?_ ?_ ?_ ?_ ?_ ?_ ?_ ?_ ?_ ?_ ?_ ?_ ?_ ?_ ?_ ?_ ?_ ?_ ?_ ?_ ?_ ?_ ?_ ?_ ?_ ?_ ?_ ?_ ?_ ?_ ?_ ?_ ?xT ?xN
    any_goals k_is
    any_goals kernel_rfl
