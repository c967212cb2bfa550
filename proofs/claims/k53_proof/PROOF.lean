import PyProof.Rows.All
import Wide.All
import OpenK.AllK
import Wide.FinOn
import KE.KStateDown
import KE.SortData
import HandS.ForMost
import HandS.More
import HandS.Walk
import HandS.Zip
import HandS.Style
import HandS.TupAny
import HandS.IsInst
import HandS.Wide
import HandS.Flow
import HandS.WordsExc
import HandS.Defaults
import HandS.Head0
import HandS.Head1
import HandS.Head2
import HandS.HeadEnd
import HandS.HeadHook1
import HandS.HeadHook2
import HandS.HeadNt
import KE.DataCmp
import HandS.SortKw
import PyProof.TupleOfSeq
import HandS.NoneIn
import HandS.ExcIs
import HandS.RevRange
import KE.GoesEnum
import KE.DataAny
import HandS.Conv
import HandS.SortInts
import HandS.FStr
import HandS.Strs
import HandS.TupSets
import HandS.DictComp
import HandS.ExcInit
import HandS.SetKeys
import HandS.SetTxt0
import HandS.SetBool
import HandS.SetFor
import KE.GoesEnumKw
import PyProof.Rows.CallKwBuiltin
import KE.DatumOrd
import HandS.ExcField
import HandS.HotCalls
import HandS.Replace
import HandS.TupLe
import KE.DataMinMax
import PyProof.StrBlock2
import HandS.WordsDict
import HandS.TupMul
import HandS.TryOnly
import PyProof.MaxThree
import PyProof.NeKinds
import HandS.Deep
import HandS.Dict
import KE.GoesMore
import PySem.Challenge.RW_felltimber_k53_reaching_by_bare_trees
set_option Elab.async false
set_option linter.all false
set_option maxRecDepth 100000
set_option maxHeartbeats 4000000
namespace FT
open PySem PySem.W PySem.Spec PyProof.Rows L2
abbrev Qa:=@pa_cons
abbrev Qb:=@pa_nil
abbrev Qc:=@pss_cons
abbrev Qe:=@pss_one
abbrev Qg:=@pe_int
abbrev Qi:=@pgs_cons
abbrev Qj:=@ps_ret
abbrev Ql:=@ix_tup
abbrev Qm:=@pe_ix
abbrev Qn:=@PySem.W.Frag
abbrev Qo:=@pt_val
abbrev Qp:=@pt_not
abbrev Qr:=@ps_if
abbrev Qs:=@pe_callB
theorem Qt {H:Hp} {a:Addr} {o:HO}:upd H a o a=some o:=upd_same
theorem Qu {α:Type} {l:List α} {n:Nat} {a:α} (h:l[n]?=some a):a ∈ l:=List.mem_of_getElem? h
theorem Qv {α:Type} {a b:α} {l:List α} (h:a ∈ b::l):a=b\/a ∈ l:=List.mem_cons.mp h
theorem Qw {α:Type} {a:α} {l k:List α} (h:a ∈ l++k):a ∈ l\/a ∈ k:=List.mem_append.mp h
theorem Qx {α β:Type} {f:α->β} {b:β} {l:List α} (h:b ∈ l.map f):∃ a,a ∈ l/\f a=b:=List.mem_map.mp h
theorem Qy {α:Type} {a b:α} (h:a ∈ [b]):a=b:=List.mem_singleton.mp h
theorem Qz {p:Prop} [Decidable p] (h:¬p):decide p=false:=decide_eq_false h
theorem Ya {p:Prop} [Decidable p] (h:p):decide p=true:=decide_eq_true h
theorem Yb {a b c:Nat} (h:a<=b) (k:b<=c):a<=c:=Nat.le_trans h k
theorem Yc (a:Nat):a<=a:=Nat.le_refl a
theorem Yd {α:Type} {a b:α} (h:some a=some b):a=b:=Option.some.inj h
theorem Ye {α β:Type} {f:α->β} {l:List α}:(l.map f).length=l.length:=List.length_map ..
theorem Yf {α:Type} {l k:List α}:(l++k).length=l.length+k.length:=List.length_append ..
theorem Yg {α:Type} {l:List α} {i:Nat}:l.take (i+1)=l.take i++l[i]?.toList:=List.take_add_one ..
theorem Yh {α:Type} {l:List α}:l.take l.length=l:=List.take_length ..
theorem Yi {α:Type} {a:α}:[a].length=1:=List.length_singleton ..
theorem Yj {α β:Type} {f:α->β} {l k:List α}:(l++k).map f=l.map f++k.map f:=List.map_append ..
theorem Yk {α:Type} {a:α} {l:List α}:(a::l).length=l.length+1:=List.length_cons ..
theorem hunT {A:Around} {e:Env} {k:Nat} (hr:Room k (A.deeper e)):A.units+3+200 < cLine:=by
 have:=hr.un;have h3:(A.deeper e).units=A.units+3:=rfl;omega
theorem nmn {α:Type} {a:α}:¬ a ∈ ([]:List α):=List.not_mem_nil
theorem mcs {α:Type} {a:α} {l:List α}:a ∈ a::l:=List.mem_cons_self
theorem mcm {α:Type} (y:α) {a:α} {l:List α} (h:a ∈ l):a ∈ y::l:=List.mem_cons_of_mem y h
theorem mal {α:Type} {a:α} {l:List α} (k:List α) (h:a ∈ l):a ∈ l++k:=List.mem_append_left k h
theorem mar {α:Type} {a:α} {l:List α} (k:List α) (h:a ∈ l):a ∈ k++l:=List.mem_append_right k h
theorem z0j {n:Nat} (h:n<=10000000):n < sizeLine:=Nat.lt_of_le_of_lt h (by decide)
structure SB (ps:List Addr) (H H':Hp):Prop where
 keep:∀ b o,H b=some o->b ∉ ps->H' b=some o
 tups:∀ b xs,H b=some (.tup xs)->H' b=some (.tup xs)
 frzs:∀ b o u,H b=some (.frz o u)->H' b=some (.frz o u)
 dom:∀ b,H' b=none->H b=none
section
variable {K:Qn} {ps qs:List Addr} {H H' H1 H2:Hp} {a p:Addr} {xs:List V}
theorem SB.refl:SB ps H H:=⟨fun _ _ h _=>h,fun _ _ h=>h,fun _ _ _ h=>h,fun _ h=>h⟩
theorem SB.trans (a:SB ps H H1) (b:SB ps H1 H2):SB ps H H2 :=
 ⟨fun c o h n=>b.keep c o (a.keep c o h n) n,fun c x h=>b.tups c x (a.tups c x h),fun c o u h=>b.frzs c o u (a.frzs c o u h),fun c h=>a.dom c (b.dom c h)⟩
theorem SB.mono (h:SB ps H H') (hs:∀ b ∈ ps,b ∈ qs):SB qs H H':=⟨fun c o e n=>h.keep c o e fun z=>n (hs c z),h.tups,h.frzs,h.dom⟩
theorem SB.nil (h:SB [] H H'):SB ps H H':=h.mono fun _ z=>absurd z (nmn)
theorem SB.new (h:H p=none) (o:HO):SB ps H (upd H p o):=by
 refine ⟨fun b u e _=>?_,fun b u e=>?_,fun b v u e=>?_,fun b e=>?_⟩
 ·rw [upd_ne (ne_of_none e h)]; exact e
 ·rw [upd_ne (ne_of_none e h)]; exact e
 ·rw [upd_ne (ne_of_none e h)]; exact e
 ·by_cases q:b=p
  ·subst q; exact h
  ·rw [upd_ne q] at e; exact e
theorem SB.set (h:H p=some (.lst xs)) (hp:p ∈ ps) (o:HO):SB ps H (upd H p o):=by
 refine ⟨fun b u e n=>?_,fun b u e=>?_,fun b v u e=>?_,fun b e=>?_⟩
 ·rw [upd_ne (fun (z:b=p)=>n (by rw [z]; exact hp))]; exact e
 ·rw [upd_ne (fun (z:b=p)=>by subst z; rw [h] at e; cases e)]; exact e
 ·rw [upd_ne (fun (z:b=p)=>by subst z; rw [h] at e; cases e)]; exact e
 ·by_cases q:b=p
  ·subst q; rw [Qt] at e; cases e
  ·rw [upd_ne q] at e; exact e
theorem SB.drop (h:SB (p::ps) H H') (n:H p=none):SB ps H H':=by
 refine ⟨fun b o e m=>h.keep b o e fun z=>?_,h.tups,h.frzs,h.dom⟩;rcases Qv z with z | z
 ·subst z; rw [n] at e; cases e
 ·exact m z
theorem SB.sqT (e:SB ps H H') (h:SqT K H a xs):SqT K H' a xs:=by
 rcases h with (h | ⟨o,h⟩) | h
 ·exact .inl (.inl (e.tups _ _ h))
 ·exact .inl (.inr ⟨o,e.frzs _ _ _ h⟩)
 ·exact .inr h
theorem SB.sqL (e:SB ps H H') (n:a ∉ ps) (h:SqL K H a xs):SqL K H' a xs:=by
 rcases h with (h | ⟨o,h⟩) | h
 ·exact .inl (.inl (e.keep _ _ h n))
 ·exact .inl (.inr ⟨o,e.frzs _ _ _ h⟩)
 ·exact .inr h
end
inductive Lad where
 | nil
 | cons (e:Lad) (m:Int) (r:Lad)
 deriving DecidableEq
namespace Lad
def encs:Lad->List PyData
 | .nil=>[]
 | .cons e m r=>.tuple [.tuple e.encs,.int m]::r.encs
def enc (l:Lad):PyData:=.tuple l.encs
def parts:Lad->Nat
 | .nil=>0
 | .cons e _ r=>1+e.parts+r.parts
def deep:Lad->Nat
 | .nil=>0
 | .cons e _ r=>max (1+e.deep) r.deep
def len:Lad->Nat
 | .nil=>0
 | .cons _ _ r=>1+r.len
theorem encs_length:∀ l:Lad,l.encs.length=l.len
 | .nil=>rfl
 | .cons e m r=>by show r.encs.length+1=1+r.len; rw [encs_length r,Nat.add_comm]
theorem len_parts:∀ l:Lad,l.len<=l.parts
 | .nil=>Yc _
 | .cons e m r=>by have:=len_parts r; show 1+r.len<=1+e.parts+r.parts; omega
theorem alikes:∀ l k:Lad,alikeAll l.encs k.encs=true
 | .nil,_=>by simp [encs,alikeAll]
 | .cons e m r,.nil=>by simp [encs,alikeAll]
 | .cons e m r,.cons e' m' r'=>by
  have h1:=alikes e e';have h2:=alikes r r';simp [encs,alikeAll,alike,h1,h2]
theorem alike_enc (l k:Lad):alike l.enc k.enc=true:=by
 show alike (.tuple l.encs) (.tuple k.encs)=true;rw [alike]; exact alikes l k
theorem encs_depth:∀ l:Lad,PyData.depthAll l.encs<=2*l.deep
 | .nil=>by simp [encs,PyData.depthAll,deep]
 | .cons e m r=>by
  have h1:=encs_depth e;have h2:=encs_depth r;simp only [encs,PyData.depthAll,PyData.depth,deep];omega
theorem enc_depth (l:Lad):l.enc.depth<=2*l.deep+1:=by
 have:=encs_depth l;simp only [enc,PyData.depth];omega
theorem enc_ne (l:Lad):l.enc ≠ .none:=fun h=>nomatch h
end Lad
def rLtD (K:Qn):R2:=fun x y H Q=>∃ d e,Dp K H x d/\Dp K H y e/\alike d e=true/\d ≠ .none/\d.depth<=100/\Q (.bl (dataLt d e)) H
section
variable {X:Cx}
theorem zb1 (hu:X.A.units+100 < cLine):OpR X (compareOp .Lt) (rLtD X.K):=by
 intro pins s σ H x y v u Q I rx ry h;obtain ⟨d,e,hd,he,al,hn,hdp,q⟩:=h;obtain ⟨as,r1⟩:=Dp.reads I d x v hd rx;obtain ⟨bs,r2⟩:=Dp.reads I e y u he ry;exact rcLt_alike d e X.A s v u as bs r1 r2 al hn (by have:=Nat.min_le_left d.depth e.depth; omega) X.prog X.w X.xe _ ⟨.bl _,H,I,rfl,q⟩
end
mutual
def z09:PyData->Bool
 | .list _=>false
 | .dict _=>false
 | .tuple ds=>z0c ds
 | _=>true
def z0c:List PyData->Bool
 | []=>true
 | d::ds=>z09 d&&z0c ds
end
section
variable {K:Qn} {ps:List Addr} {H H':Hp}
mutual
theorem z0a (e:SB ps H H'):∀ (d:PyData) (v:V),z09 d=true->Dp K H v d->Dp K H' v d
 | .none,_,_,h=>by cases h; exact .non
 | .bool b,_,_,h=>by cases h; exact .bl b
 | .int i,_,_,h=>by cases h; exact .int i
 | .str x,_,_,h=>by cases h; exact .str x
 | .list ds,_,n,_=>by simp [z09] at n
 | .dict ds,_,n,_=>by simp [z09] at n
 | .tuple ds,_,n,h=>by
  cases h with
  | tup hs ha=>exact .tup (e.sqT hs) (z50 e ds _ (by simpa [z09] using n) ha)
theorem z50 (e:SB ps H H'):∀ (ds:List PyData) (vs:List V),z0c ds=true->DpAll K H vs ds->DpAll K H' vs ds
 | [],_,_,h=>by cases h; exact .nil
 | d::ds,_,n,h=>by
  cases h with
  | cons h1 h2 =>
   simp [z0c] at n;exact .cons (z0a e d _ n.1 h1) (z50 e ds _ n.2 h2)
end
end
theorem Lad.noLists_encs:∀ l:Lad,z0c l.encs=true
 | .nil=>by simp [Lad.encs,z0c]
 | .cons e m r=>by simp [Lad.encs,z0c,z09,Lad.noLists_encs e,Lad.noLists_encs r]
theorem Lad.noList_enc (l:Lad):z09 l.enc=true:=by simp [Lad.enc,z09,Lad.noLists_encs l]
def LA (K:Qn) (H:Hp) (v:V) (l:Lad):Prop:=Dp K H v l.enc
section
variable {K:Qn} {ps:List Addr} {H H':Hp} {v:V} {l:Lad}
theorem LA.sb (h:LA K H v l) (e:SB ps H H'):LA K H' v l:=z0a e _ _ l.noList_enc h
theorem LA.tup (h:LA K H v l):∃ a xs,v=.ref a/\SqT K H a xs/\DpAll K H xs l.encs:=by
 have h':Dp K H v (.tuple l.encs):=h;cases h' with
 | tup hs ha=>exact ⟨_,_,rfl,hs,ha⟩
theorem DpAll.length:∀ {vs:List V} {ds:List PyData},DpAll K H vs ds->vs.length=ds.length
 | _,_,.nil=>rfl
 | _,_,.cons _ t=>by rw [Yk,Yk,DpAll.length t]
theorem DpAll.get:∀ {vs:List V} {ds:List PyData} {i:Nat} {v:V},DpAll K H vs ds->vs[i]?=some v->∃ d,ds[i]?=some d/\Dp K H v d
 | _,_,_,_,.nil,e=>by simp at e
 | _,_,0,_,.cons h t,e=>by simp at e; subst e; exact ⟨_,rfl,h⟩
 | _,_,i+1,v,.cons h t,e=>by
  obtain ⟨d,h1,h2⟩:=DpAll.get (i:=i) (v:=v) t (by simpa using e);exact ⟨d,by simpa using h1,h2⟩
end
structure BI (mg:Str->Option Value):Prop where
 len:mg "len"=none
 isinstance:mg "isinstance"=none
 int:mg "int"=none
 bool:mg "bool"=none
 str:mg "str"=none
 tuple:mg "tuple"=none
 list:mg "list"=none
 all:mg "all"=none
 zip:mg "zip"=none
 sum:mg "sum"=none
 max:mg "max"=none
 range:mg "range"=none
 enumerate:mg "enumerate"=none
 abs:mg "abs"=none
 sorted:mg "sorted"=none
 min:mg "min"=none
 reversed:mg "reversed"=none
 any:mg "any"=none
 set:mg "set"=none
 dict:mg "dict"=none
 repr:mg "repr"=none
structure Got (P:Program) (w:World) (K:Qn) (mg:Str->Option Value) (base:Heap) (x:Str) (ps:List Str) (k:Nat) (sp:Sp):Prop where
 ex:∃ (f:Addr) (fd:FuncData),FnOk P w K mg base CX0 k f fd ps sp/\PySem.W.keepIn K (.ref f)=true/\Binds K fd ps []/\mg x=some (.ref f)
section
variable {X:Cx} {x:Str} {ps:List Str} {k:Nat} {sp:Sp} {e:Expr} {es:List Expr} {t:TA} {p pos:Pos}
theorem z00 (G:Got X.prog X.w X.K X.mg X.base x ps k sp) (hr:Room k X.A) (hg:Gl X x) (ha:PA X (e::es) t) (hdb:(x == ("__debug__":Str))=false:=by decide) (he:starEach (e::es) X.env=(false,eval e X.env)::starEach es X.env:=by rfl) (hpl:(backTo pos (starEach es X.env)).any (·.1)=false:=by rfl) :
  PE X (.Call (.Name x p) (e::es) [] pos) (tCall sp [] E0 t):=by
 obtain ⟨f,fd,h1,h2,h3,h4⟩:=G.ex;exact pe_call h1 hr hg h4 h2 h3 .nil pass0 ha hdb he hpl
end
def zd0 (K:Qn):List V->Hp->VK->Prop:=fun xs H Q=>∃ (x:V) (T n:String) (b:Bool),xs=[x,.ty T]/\TyX K H x (.type n)/\kitB n T=some b/\Q (.bl b) H
section
variable {X:Cx}
theorem zav:CallR X (.builtin "isinstance") (zd0 X.K):=by
 intro pins s σ H xs us Q I r h;obtain ⟨x,T,n,b,rfl,ty,e,q⟩:=h;exact call_isi pins s σ H _ us Q I r ⟨x,.ty T,.type n,.type T,b,rfl,.ty T,ty,kit_ty e,q⟩
theorem zj4 {T:Str} {T':String} {pos:Pos} (hg:Gl X T) (hm:X.mg T=none) (hv:bootBuiltins T=some (.type T')) (hn:T ≠ "__name__":=by decide) (hd:(T == ("__debug__":Str))=false:=by decide):PE X (.Name T pos) (tC (.ty T')):=pe_bltn hg hm hv rfl hn hd
theorem z0w {e:Expr} {te:TE} {T:Str} {T':String} {p p2 pos:Pos} (B:BI X.mg) (he:PE X e te) (hm:X.mg T=none) (hv:bootBuiltins T=some (.type T')) (hg:Gl X "isinstance":=by rfl) (hg2:Gl X T:=by rfl) (hn:T ≠ "__name__":=by decide) (hd:(T == ("__debug__":Str))=false:=by decide)
  (hs:starEach [e,.Name T p2] X.env=(false,eval e X.env)::starEach [.Name T p2] X.env:=by rfl) (hpl:(backTo pos (starEach [.Name T p2] X.env)).any (·.1)=false:=by rfl) :
  PE X (.Call (.Name "isinstance" p) [e,.Name T p2] [] pos) (tCB (zd0 X.K) (tCons te (tCons (tC (.ty T')) tNil))) :=
 Qs zav hg B.isinstance boot_isinstance (Qa he (Qa (zj4 hg2 hm hv hn hd) Qb) hs) (by decide) (by decide) hs hpl
end
mutual
inductive Th (K:Qn) (ps:List Addr) (H:Hp):V->PyData->Prop
 | int (i:Int):Th K ps H (.int i) (.int i)
 | tup {a:Addr} {xs:List V} {ds:List PyData}:SqT K H a xs->z6k K ps H xs ds->Th K ps H (.ref a) (.tuple ds)
 | oth {v:V} {n:String}:TyX K H v (.type n)->kitB n "tuple"=some false->(kitB n "int"=some false\/n="bool")->(∀ a,v=.ref a->a ∉ ps)->Th K ps H v .none
inductive z6k (K:Qn) (ps:List Addr) (H:Hp):List V->List PyData->Prop
 | nil:z6k K ps H [] []
 | cons {v:V} {vs:List V} {d:PyData} {ds:List PyData}:Th K ps H v d->z6k K ps H vs ds->z6k K ps H (v::vs) (d::ds)
end
def z0x:PyData->Bool
 | .int i=>decide (1<=i)
 | _=>false
section
variable {K:Qn} {ps:List Addr} {H H':Hp}
theorem z2h {a:Addr} {xs:List V} (h:SqT K H a xs):TyX K H (.ref a) (.type "tuple"):=by
 rcases h with (h | ⟨o,h⟩) | ⟨o,its,n,h,c,_⟩
 ·exact .base (.tup h)
 ·exact .fTuple h
 ·exact .kTuple h c
theorem Th.whole {v:V} {d:PyData} (h:Th K ps H v d):∃ n b1 b2,TyX K H v (.type n)/\kitB n "int"=some b1/\(b1=true->kitB n "bool"=some b2)/\((b1&&!b2)=true->∃ i,v=.int i/\d=.int i)/\((b1&&!b2)=false->z0x d=false):=by
 cases h with
 | int i=>exact ⟨"int",true,false,.base (.int i),by decide +kernel,fun _=>by decide +kernel,fun _=>⟨i,rfl,rfl⟩,fun z=>(nomatch z)⟩
 | tup hs ha=>exact ⟨"tuple",false,false,(z2h hs),by decide +kernel,fun z=>(nomatch z),fun z=>(nomatch z),fun _=>rfl⟩
 | @oth v n ty k1 k2 _ =>
  rcases k2 with k2 | k2
  ·exact ⟨n,false,false,ty,k2,fun z=>(nomatch z),fun z=>(nomatch z),fun _=>rfl⟩
  ·subst k2;exact ⟨"bool",true,true,ty,by decide +kernel,fun _=>by decide +kernel,fun z=>(nomatch z),fun _=>rfl⟩
theorem z2i {v:V} {n:String} (e:SB ps H H') (hn:∀ a,v=.ref a->a ∉ ps) (h:TyX K H v (.type n)):TyX K H' v (.type n):=by
 cases h with
 | base h =>
  cases h with
  | non=>exact .base .non
  | bl x=>exact .base (.bl x)
  | int i=>exact .base (.int i)
  | str x=>exact .base (.str x)
  | flt x=>exact .base (.flt x)
  | lst h=>exact .base (.lst (e.keep _ _ h (hn _ rfl)))
  | frz h=>exact .base (.frz (e.frzs _ _ _ h))
  | tup h=>exact .base (.tup (e.tups _ _ h))
  | dK h=>exact .base (.dK (e.keep _ _ h (hn _ rfl)))
  | dT h=>exact .base (.dT (e.keep _ _ h (hn _ rfl)))
 | byt b=>exact .byt b
 | set h=>exact .set (e.keep _ _ h (hn _ rfl))
 | kList h c=>exact .kList h c
 | kTuple h c=>exact .kTuple h c
 | kDict h c=>exact .kDict h c
 | fTuple h=>exact .fTuple (e.frzs _ _ _ h)
 | fDict h=>exact .fDict (e.frzs _ _ _ h)
end
inductive Bears (K:Qn) (H:Hp) {β:Type} (enc:β->PyData):List V->List β->Prop
 | nil:Bears K H enc [] []
 | cons {v:V} {vs:List V} {b:β} {bs:List β}:Dp K H v (enc b)->Bears K H enc vs bs->Bears K H enc (v::vs) (b::bs)
section
variable {K:Qn} {H H':Hp} {β:Type} {enc:β->PyData} {ps:List Addr}
theorem Bears.length:∀ {vs:List V} {bs:List β},Bears K H enc vs bs->vs.length=bs.length
 | _,_,.nil=>rfl
 | _,_,.cons _ t=>by rw [Yk,Yk,Bears.length t]
theorem Bears.dp:∀ {vs:List V} {bs:List β},Bears K H enc vs bs->DpAll K H vs (bs.map enc)
 | _,_,.nil=>.nil
 | _,_,.cons h t=>.cons h (Bears.dp t)
theorem Bears.of:∀ {vs:List V} {bs:List β},DpAll K H vs (bs.map enc)->Bears K H enc vs bs
 | [],[],_=>.nil
 | _::_,[],h=>by cases h
 | [],_::_,h=>by cases h
 | v::vs,b::bs,h=>by
  cases h with
  | cons h1 h2=>exact .cons h1 (Bears.of h2)
theorem Bears.get:∀ {vs:List V} {bs:List β} {i:Nat} {v:V},Bears K H enc vs bs->vs[i]?=some v->∃ b,bs[i]?=some b/\Dp K H v (enc b)
 | _,_,_,_,.nil,e=>by simp at e
 | _,_,0,_,.cons h t,e=>by simp at e; subst e; exact ⟨_,rfl,h⟩
 | _,_,i+1,v,.cons h t,e=>by
  obtain ⟨d,h1,h2⟩:=Bears.get (i:=i) (v:=v) t (by simpa using e);exact ⟨d,by simpa using h1,h2⟩
theorem Bears.append:∀ {xs ys:List V} {bs cs:List β},Bears K H enc xs bs->Bears K H enc ys cs->Bears K H enc (xs++ys) (bs++cs)
 | _,_,_,_,.nil,h=>h
 | _,_,_,_,.cons a b,h=>.cons a (Bears.append b h)
theorem Bears.sb (e:SB ps H H') (hn:∀ b,z09 (enc b)=true):∀ {xs:List V} {bs:List β},Bears K H enc xs bs->Bears K H' enc xs bs
 | _,_,.nil=>.nil
 | _,_,.cons a b=>.cons (z0a e _ _ (hn _) a) (Bears.sb e hn b)
theorem Bears.take (n:Nat):∀ {xs:List V} {bs:List β},Bears K H enc xs bs->Bears K H enc (xs.take n) (bs.take n):=by
 induction n with
 | zero=>intro xs bs h; rw [List.take_zero,List.take_zero]; exact .nil
 | succ n ih =>
  intro xs bs h;cases h with
  | nil=>exact .nil
  | cons a b=>exact .cons a (ih b)
theorem Bears.drop (n:Nat):∀ {xs:List V} {bs:List β},Bears K H enc xs bs->Bears K H enc (xs.drop n) (bs.drop n):=by
 induction n with
 | zero=>intro xs bs h; exact h
 | succ n ih =>
  intro xs bs h;cases h with
  | nil=>exact .nil
  | cons a b=>exact ih b
end
section
variable {X:Cx} {pins:List (Addr × Obj)} {σ:L2.St} {H:Hp} {s:Shared} {β:Type} {enc:β->PyData}
theorem z3v (I:Inv X pins σ H s):∀ {vs:List V} {us:List Value} {bs:List β},Bears X.K H enc vs bs->Vals vs us ->
  EachIs (fun u b=>∃ v,RelV v u/\Dp X.K H v (enc b)) us bs/\EachIs (fun u b=>∃ as,Reads s.heap u (enc b) as) us bs
 | _,_,_,.nil,.nil=>⟨.nil,.nil⟩
 | _,_,_,.cons h t,.cons r u=>by
  obtain ⟨h1,h2⟩:=z3v I t u;exact ⟨.cons ⟨_,r,h⟩ h1,.cons (Dp.reads I _ _ _ h r) h2⟩
theorem z71 {K:Qn}:∀ {us:List Value} {bs:List β},EachIs (fun u b=>∃ v,RelV v u/\Dp K H v (enc b)) us bs->∃ vs,Vals vs us/\Bears K H enc vs bs
 | _,_,.nil=>⟨[],.nil,.nil⟩
 | _,_,.cons ⟨v,r,h⟩ t=>by
  obtain ⟨vs,h1,h2⟩:=z71 t;exact ⟨v::vs,.cons r h1,.cons h h2⟩
end
section
variable {P:Program} {w:World} {K:Qn} {mg:Str->Option Value} {base:Heap} {f:Addr} {fd:FuncData}
def z70 (K:Qn):Sp:=fun vs H Q _=>∃ (v:V) (n:String) (b1 b2:Bool),vs=[v]/\TyX K H v (.type n)/\kitB n "int"=some b1/\(b1=true->kitB n "bool"=some b2)/\Q (.bl (b1&&!b2)) H
def z5s (K:Qn) (ps:List Addr):Sp:=fun vs H Q _=>∃ (v:V) (d:PyData),vs=[v]/\Th K ps H v d/\Q (.bl (z0x d)) H
end
def ltsD:List PyData->List Bool
 | []=>[]
 | [_]=>[]
 | a::b::r=>dataLt a b::ltsD (b::r)
def z2m (ds:List PyData):Bool:=(ltsD ds).all id
theorem z2f:∀ ds:List PyData,(ltsD ds).length=ds.length-1
 | []=>rfl
 | [_]=>rfl
 | a::b::r=>by
  have h:=z2f (b::r);show (ltsD (b::r)).length+1=_;rw [h]; simp
theorem z7w:∀ (ds:List PyData) (i:Nat) (d e:PyData),ds[i]?=some d->ds[i+1]?=some e->(ltsD ds)[i]?=some (dataLt d e)
 | [],_,_,_,h,_=>by simp at h
 | [_],_,_,_,_,h=>by simp at h
 | a::b::r,0,d,e,h1,h2=>by simp at h1 h2; subst h1 h2; rfl
 | a::b::r,i+1,d,e,h1,h2=>by
  have:=z7w (b::r) i d e (by simpa using h1) (by simpa using h2);simpa [ltsD] using this
theorem cut1 (xs:List V):cutV xs (some 1) none=xs.drop 1:=by
 unfold cutV;have h1:HT.sIx xs.length 0 (some 1)=min 1 xs.length:=HT.sIx_nat xs.length 0 1;have h2:HT.sIx xs.length xs.length none=xs.length:=rfl;rw [h1,h2];cases xs with
 | nil=>rfl
 | cons x r =>
  have:min 1 (x::r).length=1:=by simp
  rw [this];simp
section
variable {P:Program} {w:World} {K:Qn} {mg:Str->Option Value} {base:Heap} {f:Addr} {fd:FuncData}
def OkD (d:PyData):Prop:=z09 d=true/\d ≠ .none/\d.depth<=100
def z7u (K:Qn):Sp:=fun vs H Q _=>∃ (a:Addr) (xs:List V) (ds:List PyData),vs=[.ref a]/\SqL K H a xs/\DpAll K H xs ds/\(∀ d ∈ ds,OkD d)/\AllAlike ds/\xs.length<=1000 /\
 ∀ H',SB [] H H'->Q (.bl (z2m ds)) H'
abbrev z85:List Str:=["things","low","high"]
end
def Lad.num (i:Int):Lad:=if i=0 then .nil else .cons .nil i .nil
def Lad.lt (l k:Lad):Bool:=dataLt l.enc k.enc
section
variable {P:Program} {w:World} {K:Qn} {mg:Str->Option Value} {base:Heap} {f:Addr} {fd:FuncData}
theorem z10 {H:Hp} {p:Addr} (h:SqT K H p []):LA K H (.ref p) .nil:=Dp.tup h .nil
theorem z3j {H:Hp} {p q:Addr} {u:V} {e:Lad} {m:Int} (h:SqT K H p [.ref q]) (h2:SqT K H q [u,.int m]) (h3:LA K H u e):LA K H (.ref p) (.cons e m .nil) :=
 Dp.tup h (.cons (.tup h2 (.cons h3 (.cons (.int m) .nil))) .nil)
def z8h (K:Qn):Sp:=fun vs H Q _=>∃ i:Int,vs=[.int i]/\∀ v H',SB [] H H'->LA K H' v (Lad.num i)->Q v H'
def z1g (K:Qn):Sp:=fun vs H Q _=>∃ (v u:V) (l k:Lad),vs=[v,u]/\LA K H v l/\LA K H u k/\l.deep<=45/\Q (.bl (l.lt k)) H
end
namespace Lad
def ps:Lad->List (Lad × Int)
 | .nil=>[]
 | .cons e m r=>(e,m)::r.ps
def ofPs:List (Lad × Int)->Lad
 | []=>.nil
 | (e,m)::r=>.cons e m (ofPs r)
def pEnc (p:Lad × Int):PyData:=.tuple [p.1.enc,.int p.2]
theorem ofPs_ps:∀ l:Lad,ofPs l.ps=l
 | .nil=>rfl
 | .cons e m r=>by show cons e m (ofPs r.ps)=_; rw [ofPs_ps r]
theorem ps_ofPs:∀ l:List (Lad × Int),(ofPs l).ps=l
 | []=>rfl
 | (e,m)::r=>by show (e,m)::(ofPs r).ps=_; rw [ps_ofPs r]
theorem encs_ps:∀ l:Lad,l.encs=l.ps.map pEnc
 | .nil=>rfl
 | .cons e m r=>by show _::r.encs=pEnc (e,m)::r.ps.map pEnc; rw [encs_ps r]; rfl
theorem ps_length (l:Lad):l.ps.length=l.len:=by rw [<- encs_length,encs_ps,Ye]
theorem mem_parts:∀ (l:Lad) (p:Lad × Int),p ∈ l.ps->p.1.parts < l.parts
 | .nil,_,h=>by simp [ps] at h
 | .cons e m r,p,h=>by
  rcases Qv h with h | h
  ·subst h; show e.parts < 1+e.parts+r.parts; omega
  ·have:=mem_parts r p h; show p.1.parts < 1+e.parts+r.parts; omega
theorem mem_deep:∀ (l:Lad) (p:Lad × Int),p ∈ l.ps->p.1.deep < l.deep
 | .nil,_,h=>by simp [ps] at h
 | .cons e m r,p,h=>by
  rcases Qv h with h | h
  ·subst h; show e.deep < max (1+e.deep) r.deep; omega
  ·have:=mem_deep r p h; show p.1.deep < max (1+e.deep) r.deep; omega
end Lad
section
variable {P:Program} {w:World} {K:Qn} {mg:Str->Option Value} {base:Heap} {f:Addr} {fd:FuncData}
theorem z0b {H:Hp} {v:V} {p:Lad × Int} (h:Dp K H v (Lad.pEnc p)):∃ a u,v=.ref a/\SqT K H a [u,.int p.2]/\LA K H u p.1:=by
 have h':Dp K H v (.tuple [p.1.enc,.int p.2]):=h;cases h' with
 | tup hs ha =>
  cases ha with
  | cons a1 a2 =>
   cases a2 with
   | cons b1 b2 =>
    cases b2;cases b1;exact ⟨_,_,rfl,hs,a1⟩
end
def exp0:PyData->PyData
 | .tuple (e::_)=>e
 | _=>.none
mutual
def ladD:PyData->Bool
 | .tuple ds=>zd3 ds&&z2m (ds.map exp0).reverse
 | _=>false
def zd3:List PyData->Bool
 | []=>true
 | d::ds=>ladP d&&zd3 ds
def ladP:PyData->Bool
 | .tuple ds=>zhp ds
 | _=>false
def zhp:List PyData->Bool
 | []=>false
 | e::r=>ladD e&&z11 r
def z11:List PyData->Bool
 | []=>false
 | m::r=>z0x m&&r.isEmpty
end
theorem z3f {ds:List PyData} {i:Nat} {d:PyData} (h:ds[i]?=some d):d.depth<=PyData.depthAll ds:=PyData.depth_le_depthAll ds d (Qu h)
section
variable {P:Program} {w:World} {K:Qn} {mg:Str->Option Value} {base:Heap} {f:Addr} {fd:FuncData} {ps:List Addr}
mutual
def wide:PyData->Nat
 | .tuple ds=>max ds.length (z13 ds)
 | _=>0
def z13:List PyData->Nat
 | []=>0
 | d::ds=>max (wide d) (z13 ds)
end
theorem z4z:∀ (ds:List PyData) (d:PyData),d ∈ ds->wide d<=z13 ds
 | [],_,h=>by simp at h
 | e::ds,d,h=>by
  rw [z13];rcases Qv h with h | h
  ·subst h; omega
  ·have:=z4z ds d h; omega
theorem z2u (ds:List PyData):wide (.tuple ds)=max ds.length (z13 ds):=by rw [wide]
end
section
variable {K:Qn} {H:Hp}
theorem DpAll.append:∀ {xs ys:List V} {ds es:List PyData},DpAll K H xs ds->DpAll K H ys es->DpAll K H (xs++ys) (ds++es)
 | _,_,_,_,.nil,h=>h
 | _,_,_,_,.cons a b,h=>.cons a (DpAll.append b h)
end
section
variable {K:Qn} {a b:Addr} {xs ys:List V}
theorem zaf {n:Nat} (hn:n=min xs.length ys.length):Walk (RZ.ItzT K a b) n (fun H=>SqT K H a xs/\SqT K H b ys) (YPair (fun i=>xs[i]?) (fun i=>ys[i]?)):=by
 subst hn;refine ⟨fun i H hi h=>?_,fun H h=>?_,fun i H x H' hi h y=>?_⟩
 ·have h1:i < xs.length:=by omega
  have h2:i < ys.length:=by omega
  exact ⟨xs,ys,xs[i],ys[i],h.1,h.2,List.getElem?_eq_getElem h1,List.getElem?_eq_getElem h2⟩
 ·exact ⟨xs,ys,h.1,h.2,by omega⟩
 ·obtain ⟨T,x1,y1,e1,e2,e3,e4,e5⟩:=y;exact ⟨T,x1,y1,e1,e2,e3,e4 xs h.1,e5 ys h.2⟩
end
theorem ib (m m':Int):(m == m')=decide (m=m'):=by by_cases h:m=m' <;> simp [h]
theorem Lad.eqvs:∀ l k:Lad,PyData.eqvAll l.encs k.encs=decide (l=k)
 | .nil,.nil=>by simp [encs,PyData.eqvAll]
 | .nil,.cons _ _ _=>by simp [encs,PyData.eqvAll]
 | .cons _ _ _,.nil=>by simp [encs,PyData.eqvAll]
 | .cons e m r,.cons e' m' r'=>by
  have h1:=Lad.eqvs e e';have h2:=Lad.eqvs r r';simp [encs,PyData.eqvAll,PyData.eqv,h1,h2,Bool.and_assoc,ib]
theorem Lad.eqv_enc (l k:Lad):PyData.eqv l.enc k.enc=decide (l=k):=by
 rw [Lad.enc,Lad.enc,PyData.eqv]; exact Lad.eqvs l k
theorem Lad.lt_nil_nil:Lad.lt .nil .nil=false:=by decide +kernel
theorem Lad.lt_nil_cons (e:Lad) (m:Int) (r:Lad):Lad.lt .nil (.cons e m r)=true:=by
 unfold Lad.lt Lad.enc;rw [dataLt_tuple,Lad.encs,Lad.encs,toks_all_cons,show keyToksAll []=[.inl 0] by simp [keyToksAll],lex_atom (by simp),lex_one]
 decide +kernel
theorem Lad.lt_cons_nil (e:Lad) (m:Int) (r:Lad):Lad.lt (.cons e m r) .nil=false:=by
 unfold Lad.lt Lad.enc;rw [dataLt_tuple,Lad.encs,Lad.encs,toks_all_cons,show keyToksAll []=[.inl 0] by simp [keyToksAll],lex_atom (by simp),lex_one]
 decide +kernel
theorem Lad.lt_cons (e e':Lad) (m m':Int) (r r':Lad):Lad.lt (.cons e m r) (.cons e' m' r')=if e=e' then (if m=m' then r.lt r' else decide (m < m')) else e.lt e':=by
 have al:alike (.tuple [e.enc,.int m]) (.tuple [e'.enc,.int m'])=true:=by simp [alike,alikeAll,e.alike_enc e']
 have h1:Lad.lt (.cons e m r) (.cons e' m' r')=if PyData.eqv (.tuple [e.enc,.int m]) (.tuple [e'.enc,.int m'])=true then r.lt r' else dataLt (.tuple [e.enc,.int m]) (.tuple [e'.enc,.int m']):=by
  unfold Lad.lt;rw [show (Lad.cons e m r).enc=.tuple (.tuple [e.enc,.int m]::r.encs) from rfl,show (Lad.cons e' m' r').enc=.tuple (.tuple [e'.enc,.int m']::r'.encs) from rfl,dataLt_tuple,dataLt_cons al];rw [show dataLt r.enc r'.enc=PyProof.Rows.lexLt itemOrd (keyToksAll r.encs) (keyToksAll r'.encs) from dataLt_tuple _ _]
 have h2:PyData.eqv (.tuple [e.enc,.int m]) (.tuple [e'.enc,.int m'])=(decide (e=e')&&decide (m=m')):=by
  simp [PyData.eqv,PyData.eqvAll,Lad.eqv_enc,ib]
 rw [h1,h2,dataLt_pair (e.alike_enc e') (by simp [alike]),Lad.eqv_enc];by_cases he:e=e'
 ·by_cases hm:m=m'
  ·simp [he,hm]
  ·simp [he,hm,PyData.eqv,dataLt_int]
 ·simp [he,Lad.lt]
namespace Lad
theorem lt_irrefl:∀ l:Lad,l.lt l=false
 | .nil=>lt_nil_nil
 | .cons e m r=>by rw [lt_cons,if_pos rfl,if_pos rfl]; exact lt_irrefl r
theorem lt_nil_r:∀ l:Lad,l.lt .nil=false
 | .nil=>lt_nil_nil
 | .cons e m r=>lt_cons_nil e m r
theorem lt_ne {l k:Lad} (h:l.lt k=true):l ≠ k:=fun z=>by subst z; rw [lt_irrefl] at h; cases h
theorem lt_tri:∀ l k:Lad,l ≠ k->l.lt k=false->k.lt l=true
 | .nil,.nil,h,_=>absurd rfl h
 | .nil,.cons e m r,_,h=>by rw [lt_nil_cons] at h; cases h
 | .cons e m r,.nil,_,_=>lt_nil_cons e m r
 | .cons e m r,.cons e' m' r',hne,h=>by
  rw [lt_cons] at h ⊢;by_cases he:e=e'
  ·subst he;rw [if_pos rfl] at h ⊢;by_cases hm:m=m'
   ·subst hm;rw [if_pos rfl] at h ⊢;exact lt_tri r r' (fun z=>hne (by rw [z])) h
   ·rw [if_neg hm] at h;rw [if_neg (fun z=>hm z.symm)];have:=of_decide_eq_false h;exact Ya (by omega)
  ·rw [if_neg he] at h;rw [if_neg (fun z=>he z.symm)];exact lt_tri e e' he h
theorem lt_trans:∀ l k j:Lad,l.lt k=true->k.lt j=true->l.lt j=true
 | _,_,.nil,_,h=>by rw [lt_nil_r] at h; cases h
 | _,.nil,.cons _ _ _,h,_=>by rw [lt_nil_r] at h; cases h
 | .nil,.cons _ _ _,.cons e m r,_,_=>lt_nil_cons e m r
 | .cons e m r,.cons e' m' r',.cons e'' m'' r'',h1,h2=>by
  rw [lt_cons] at h1 h2 ⊢;by_cases he:e=e'
  ·subst he;rw [if_pos rfl] at h1;by_cases he2:e=e''
   ·subst he2;rw [if_pos rfl] at h2 ⊢;by_cases hm:m=m'
    ·subst hm;rw [if_pos rfl] at h1;by_cases hm2:m=m''
     ·subst hm2;rw [if_pos rfl] at h2 ⊢;exact lt_trans r r' r'' h1 h2
     ·rw [if_neg hm2] at h2 ⊢;exact h2
    ·rw [if_neg hm] at h1;have a1:=of_decide_eq_true h1;by_cases hm2:m'=m''
     ·subst hm2;rw [if_neg hm];exact h1
     ·rw [if_neg hm2] at h2;have a2:=of_decide_eq_true h2;rw [if_neg (by omega)];exact Ya (by omega)
   ·rw [if_neg he2] at h2 ⊢;exact h2
  ·rw [if_neg he] at h1;by_cases he2:e'=e''
   ·subst he2;rw [if_neg he];exact h1
   ·rw [if_neg he2] at h2;have h3:=lt_trans e e' e'' h1 h2;rw [if_neg (lt_ne h3)];exact h3
theorem lt_asymm {l k:Lad} (h:l.lt k=true):k.lt l=false:=by
 cases e:k.lt l with
 | false=>rfl
 | true =>
  have:=lt_trans l k l h e;rw [lt_irrefl] at this;cases this
def Ok (B:Int):Lad->Prop
 | .nil=>True
 | .cons e m r=>e.Ok B/\1<=m/\m < B/\r.Ok B/\∀ p ∈ r.ps,p.1.lt e=true
theorem Ok.mono {B C:Int} (h:B<=C):∀ {l:Lad},l.Ok B->l.Ok C
 | .nil,_=>trivial
 | .cons e m r,⟨h1,h2,h3,h4,h5⟩=>⟨Ok.mono h h1,h2,by omega,Ok.mono h h4,h5⟩
theorem ok_ps {B:Int}:∀ {ps:List (Lad × Int)},(ofPs ps).Ok B ↔ (∀ p ∈ ps,p.1.Ok B/\1<=p.2/\p.2 < B)/\ps.Pairwise (fun p q=>q.1.lt p.1=true)
 | []=>by simp [ofPs,Ok]
 | (e,m)::r=>by
  have ih:=ok_ps (B:=B) (ps:=r);show (e.Ok B/\1<=m/\m < B/\(ofPs r).Ok B/\∀ p ∈ (ofPs r).ps,p.1.lt e=true) ↔ _;rw [ps_ofPs,List.pairwise_cons,ih];constructor
  ·rintro ⟨h1,h2,h3,⟨h4,h5⟩,h6⟩
   refine ⟨fun p hp=>?_,h6,h5⟩;rcases Qv hp with hp | hp
   ·subst hp; exact ⟨h1,h2,h3⟩
   ·exact h4 p hp
  ·rintro ⟨h1,h2,h3⟩
   have h4:=h1 (e,m) (mcs ..);exact ⟨h4.1,h4.2.1,h4.2.2,⟨fun p hp=>h1 p (mcm _ hp),h3⟩,h2⟩
theorem ok_iff {B:Int} {l:Lad}:l.Ok B ↔ (∀ p ∈ l.ps,p.1.Ok B/\1<=p.2/\p.2 < B)/\l.ps.Pairwise (fun p q=>q.1.lt p.1=true):=by
 have:=ok_ps (B:=B) (ps:=l.ps);rw [ofPs_ps] at this;exact this
end Lad
section
variable {P:Program} {w:World} {K:Qn} {mg:Str->Option Value} {base:Heap} {f:Addr} {fd:FuncData}
def spLaw (K:Qn):Sp:=fun vs H Q _=>∃ (a:Addr) (ns:List Int),vs=[.ref a]/\SqL K H a (ns.map V.int)/\ns.length<=63/\∀ H',Q (.bl true) H'
theorem z0v {ps:List Str} {k:Nat} {sp:Sp} (no:∀ vs H Q E,¬ sp vs H Q E):FnOk P w K mg base CX0 k f fd ps sp :=
 ⟨fun vs H Q E h=>absurd h (no vs H Q E),fun A outer s H args us vs Q E _ _ _ _ h=>absurd h (no vs H Q E)⟩
end
namespace Lad
theorem lays:∀ l:Lad,PyData.canLayAll0 l.encs=true
 | .nil=>by simp [encs,PyData.canLayAll0]
 | .cons e m r=>by simp [encs,PyData.canLayAll0,PyData.canLay0,lays e,lays r]
theorem shaped_enc {l:Lad} (h:l.deep<=31):SeqAt.shaped l.enc=true:=by
 have:=l.enc_depth;unfold SeqAt.shaped;rw [show l.enc.canLay0=true by rw [enc,PyData.canLay0]; exact lays l];simp; omega
theorem pEnc_alike (p q:Lad × Int):alike (pEnc p) (pEnc q)=true:=by simp [pEnc,alike,alikeAll,p.1.alike_enc q.1]
theorem pEnc_noList (p:Lad × Int):z09 (pEnc p)=true:=by simp [pEnc,z09,z0c,Lad.noList_enc]
theorem pEnc_depth (p:Lad × Int):(pEnc p).depth<=2*p.1.deep+2:=by
 have:=p.1.enc_depth;simp only [pEnc,PyData.depth,PyData.depthAll]; omega
theorem pEnc_all (bs:List (Lad × Int)):AllAlike (bs.map pEnc):=AllAlike.of pEnc_alike
theorem pEnc_sortable (bs:List (Lad × Int)):Sortable (bs.map pEnc):=Sortable.tuples fun b=>⟨_,_,rfl⟩
theorem pLt (p q:Lad × Int):dataLt (pEnc p) (pEnc q)=if p.1=q.1 then decide (p.2 < q.2) else p.1.lt q.1:=by
 unfold pEnc;rw [dataLt_pair (p.1.alike_enc q.1) (by simp [alike]),Lad.eqv_enc];by_cases h:p.1=q.1
 ·rw [if_pos (by simp [h]),if_pos h,dataLt_int];by_cases h2:p.2=q.2
  ·simp [PyData.eqv,h2]
  ·simp [PyData.eqv,h2]
 ·rw [if_neg (by simp [h]),if_neg h]; rfl
def tot:List (Lad × Int)->Nat
 | []=>0
 | p::r=>1+p.1.parts+tot r
theorem parts_ofPs:∀ bs:List (Lad × Int),(ofPs bs).parts=tot bs
 | []=>rfl
 | (e,m)::r=>by show 1+e.parts+(ofPs r).parts=1+e.parts+tot r; rw [parts_ofPs r]
theorem tot_append:∀ bs cs:List (Lad × Int),tot (bs++cs)=tot bs+tot cs
 | [],cs=>by simp [tot]
 | p::r,cs=>by show 1+p.1.parts+tot (r++cs)=_; rw [tot_append r cs,tot]; omega
theorem tot_filter (f:Lad × Int->Bool):∀ bs:List (Lad × Int),tot (bs.filter f)<=tot bs
 | []=>by simp [tot]
 | p::r=>by
  have:=tot_filter f r;rw [List.filter_cons]
  split
  ·show 1+p.1.parts+tot (r.filter f)<=1+p.1.parts+tot r; omega
  ·show tot (r.filter f)<=1+p.1.parts+tot r; omega
theorem tot_perm {bs cs:List (Lad × Int)} (h:bs.Perm cs):tot bs=tot cs:=by
 induction h with
 | nil=>rfl
 | cons x _ ih=>simp only [tot]; omega
 | swap x y l=>simp only [tot]; omega
 | trans _ _ h1 h2=>omega
theorem deep_ofPs {n:Nat}:∀ {bs:List (Lad × Int)},(∀ b ∈ bs,b.1.deep < n)->(ofPs bs).deep<=n
 | [],_=>Nat.zero_le _
 | (e,m)::r,h=>by
  have h1:=deep_ofPs (bs:=r) fun b hb=>h b (mcm _ hb);have h2:e.deep < n:=h (e,m) (mcs ..);show max (1+e.deep) (ofPs r).deep<=n;omega
end Lad
theorem z0q {K:Qn} {H:Hp} {a:Addr} {xs:List V} {bs:List (Lad × Int)} (h:SqT K H a xs) (hb:Bears K H Lad.pEnc xs bs):LA K H (.ref a) (Lad.ofPs bs):=by
 refine Dp.tup h ?_;rw [Lad.encs_ps,Lad.ps_ofPs];exact hb.dp
theorem z05 {K:Qn} {H:Hp} {v:V} {l:Lad} (h:LA K H v l):∃ a xs,v=.ref a/\SqT K H a xs/\Bears K H Lad.pEnc xs l.ps:=by
 obtain ⟨a,xs,rfl,hs,ha⟩:=h.tup;rw [Lad.encs_ps] at ha;exact ⟨a,xs,rfl,hs,Bears.of ha⟩
def zd6 (K:Qn):R2:=fun x y H Q=>∃ a b xs ys,x=.ref a/\y=.ref b/\SqT K H a xs/\SqT K H b ys/\xs.length+ys.length<=10000000/\∀ c H',SB [] H H'->SqT K H' c (xs++ys)->Q (.ref c) H'
def rSlB (K:Qn):V->Option Int->Option Int->Hp->VK->Prop:=fun x lo hi H Q=>∃ a xs,x=.ref a/\SqT K H a xs/\∀ c H',SB [] H H'->SqT K H' c (cutV xs lo hi)->Q (.ref c) H'
section
variable {X:Cx}
theorem z0y:OpR X (binaryOp .Add) (zd6 X.K):=by
 intro pins s σ H x y v u Q I rx ry h;obtain ⟨a,b,xs,ys,rfl,rfl,ha,hb,hz,q⟩:=h;refine op_catA pins s σ H _ _ v u Q I rx ry ⟨a,b,xs,ys,rfl,rfl,ha,hb,by rw [sizeLine_eq]; omega,fun e=>?_,fun e1 e2=>?_,fun e1 e2 p hp=>?_⟩
 ·subst e; exact q b H SB.refl hb
 ·subst e2; exact q a H SB.refl (by rw [List.append_nil]; exact ha)
 ·exact q p _ (SB.new hp _) (SqT.of Qt)
theorem z12:SlR X (rSlB X.K):=by
 intro pins s σ H x v vl vu lo hi sl Q I rx hs pl pu h;obtain ⟨a,xs,rfl,hx,q⟩:=h;refine sl_tupA pins s σ H _ v vl vu lo hi sl Q I rx hs pl pu ⟨a,xs,rfl,hx,fun e=>?_,fun e p hp=>?_⟩
 ·refine q a H SB.refl ?_;have:cutV xs lo hi=xs:=by
   unfold cutV;rw [e.1,e.2];simp
  rw [this]; exact hx
 ·exact q p _ (SB.new hp _) (SqT.of Qt)
end
theorem z2q (xs:List V) (k:Nat):cutV xs none (some (k:Int))=xs.take k:=by
 unfold cutV;have h1:HT.sIx xs.length 0 none=0:=rfl;have h2:HT.sIx xs.length xs.length (some (k:Int))=min k xs.length:=HT.sIx_nat xs.length xs.length k;rw [h1,h2];simp
theorem z2r (xs:List V) (k:Nat):cutV xs (some (k:Int)) none=xs.drop k:=by
 unfold cutV;have h1:HT.sIx xs.length 0 (some (k:Int))=min k xs.length:=HT.sIx_nat xs.length 0 k;have h2:HT.sIx xs.length xs.length none=xs.length:=rfl;rw [h1,h2];by_cases h:k<=xs.length
 ·rw [Nat.min_eq_left h,List.take_of_length_le (by rw [List.length_drop]; omega)]
 ·rw [Nat.min_eq_right (by omega),List.drop_eq_nil_of_le (Yc _),List.drop_eq_nil_of_le (by omega)];simp
namespace Lad
def sumAt (ps:List (Lad × Int)) (e:Lad):Int:=((ps.filter fun p=>decide (p.1=e)).map (·.2)).sum
def bhd (l k:Lad):Lad:=match k.ps with
 | []=>l
 | (e,m)::r=>ofPs (l.ps.filter (fun p=>e.lt p.1)++(e,sumAt l.ps e+m)::r)
theorem bhd_nil (l:Lad):bhd l .nil=l:=rfl
theorem bhd_cons (l e:Lad) (m:Int) (r:Lad):bhd l (.cons e m r)=ofPs (l.ps.filter (fun p=>e.lt p.1)++(e,sumAt l.ps e+m)::r.ps):=rfl
end Lad
def z52 (K:Qn):Sp:=fun vs H Q _=>∃ (v u:V) (l e:Lad),vs=[v,u]/\LA K H v l/\LA K H u e/\l.deep<=30/\e.deep<=30/\l.parts<=1000000/\∀ H',SB [] H H'->Q (.int (Lad.sumAt l.ps e)) H'
def z20 (K:Qn):Sp:=fun vs H Q _=>∃ (v u:V) (l k:Lad),vs=[v,u]/\LA K H v l/\LA K H u k/\l.deep<=30/\k.deep<=30/\l.parts<=900000/\k.parts<=900000/\∀ (x:V) (H':Hp),SB [] H H'->LA K H' x (l.bhd k)->Q x H'
namespace Lad
theorem deep_parts_mem {l:Lad} {n:Nat} (h:l.deep<=n):∀ p ∈ l.ps,p.1.deep < n:=fun p hp=>Nat.lt_of_lt_of_le (mem_deep l p hp) h
end Lad
namespace Lad
theorem bhd_parts (l k:Lad):(bhd l k).parts<=l.parts+k.parts:=by
 cases k with
 | nil=>rw [bhd_nil]; omega
 | cons e m r =>
  rw [bhd_cons,parts_ofPs,tot_append];have h1:l.parts=tot l.ps:=by rw [<- parts_ofPs,ofPs_ps]
  have h2:=tot_filter (fun p=>e.lt p.1) l.ps;have h3:r.parts=tot r.ps:=by rw [<- parts_ofPs,ofPs_ps]
  simp only [tot,Lad.parts];omega
theorem bhd_deep {n:Nat} {l k:Lad} (hl:l.deep<=n) (hk:k.deep<=n):(bhd l k).deep<=n:=by
 cases k with
 | nil=>rw [bhd_nil]; exact hl
 | cons e m r =>
  rw [bhd_cons];refine deep_ofPs fun b hb=>?_;rcases Qw hb with hb | hb
  ·exact deep_parts_mem hl b (List.mem_filter.mp hb).1
  ·rcases Qv hb with hb | hb
   ·subst hb; exact deep_parts_mem hk (e,m) (mcs ..)
   ·exact deep_parts_mem hk b (mcm _ hb)
theorem nil_bhd (k:Lad):bhd .nil k=k:=by
 cases k with
 | nil=>rfl
 | cons e m r =>
  rw [bhd_cons];show ofPs ([]++(e,sumAt [] e+m)::r.ps)=_;have:sumAt [] e+m=m:=by simp [sumAt]
  rw [this];show cons e m (ofPs r.ps)=_;rw [ofPs_ps]
end Lad
namespace Lad
theorem lt_ps (p q:Lad × Int) (r s:List (Lad × Int)):(ofPs (p::r)).lt (ofPs (q::s))=if p.1=q.1 then (if p.2=q.2 then (ofPs r).lt (ofPs s) else decide (p.2 < q.2)) else p.1.lt q.1:=lt_cons _ _ _ _ _ _
theorem lt_drop {l o:Lad} {k:Nat} {p q:Lad × Int} (hp:l.ps[k]?=some p) (hq:o.ps[k]?=some q):(ofPs (l.ps.drop k)).lt (ofPs (o.ps.drop k))=if p.1=q.1 then (if p.2=q.2 then (ofPs (l.ps.drop (k+1))).lt (ofPs (o.ps.drop (k+1))) else decide (p.2 < q.2)) else p.1.lt q.1:=by
 have h1:k < l.ps.length:=(List.getElem?_eq_some_iff.mp hp).1;have h2:k < o.ps.length:=(List.getElem?_eq_some_iff.mp hq).1;have e1:l.ps[k]=p:=(List.getElem?_eq_some_iff.mp hp).2;have e2:o.ps[k]=q:=(List.getElem?_eq_some_iff.mp hq).2;rw [List.drop_eq_getElem_cons h1,List.drop_eq_getElem_cons h2,e1,e2,lt_ps]
theorem lt_end {l o:Lad} {k:Nat} (hk:k<=l.ps.length) (hk2:k<=o.ps.length) (h:¬ (k < l.ps.length/\k < o.ps.length)):(ofPs (l.ps.drop k)).lt (ofPs (o.ps.drop k))=(decide (k=l.ps.length)&&decide (k < o.ps.length)):=by
 by_cases h1:k=l.ps.length
 ·rw [List.drop_eq_nil_of_le (show l.ps.length<=k by omega)];by_cases h2:k < o.ps.length
  ·rw [List.drop_eq_getElem_cons h2];show Lad.lt .nil (.cons _ _ _)=_;rw [lt_nil_cons]; simp [h1]; omega
  ·rw [List.drop_eq_nil_of_le (by omega)];show Lad.lt .nil .nil=_;rw [lt_nil_nil]; simp; intro _; omega
 ·have h2:¬ k < o.ps.length:=by omega
  rw [List.drop_eq_nil_of_le (as:=o.ps) (by omega)];show Lad.lt _ .nil=_;rw [lt_nil_r]; simp [h1]
end Lad
def z0z (K:Qn) (n:Nat):Sp:=fun vs H Q _=>∃ (v u:V) (l k:Lad),vs=[v,u]/\LA K H v l/\LA K H u k/\l.deep < n/\l.deep<=30/\k.deep<=30/\∀ H',SB [] H H'->Q (.bl (l.lt k)) H'
theorem Bears.at {K:Qn} {H:Hp} {β:Type} {enc:β->PyData}:∀ {vs:List V} {bs:List β} {i:Nat} {b:β},Bears K H enc vs bs->bs[i]?=some b->∃ v,vs[i]?=some v/\Dp K H v (enc b)
 | _,_,_,_,.nil,e=>by simp at e
 | _,_,0,_,.cons h t,e=>by simp at e; subst e; exact ⟨_,rfl,h⟩
 | _,_,i+1,b,.cons h t,e=>by
  obtain ⟨d,h1,h2⟩:=Bears.at (i:=i) (b:=b) t (by simpa using e);exact ⟨d,by simpa using h1,h2⟩
namespace Lad
theorem le_trans {a b c:Lad} (h1:b.lt a=false) (h2:c.lt b=false):c.lt a=false:=by
 cases e:c.lt a with
 | false=>rfl
 | true =>
  by_cases hab:a=b
  ·subst hab; rw [e] at h2; cases h2
  ·have h3:a.lt b=true:=lt_tri b a (fun z=>hab z.symm) h1;have h4:=lt_trans c a b e h3;rw [h4] at h2; cases h2
theorem le_of_lt {a b:Lad} (h:a.lt b=true):b.lt a=false:=lt_asymm h
end Lad
section
variable {prog:Program} {w:World} {A:Around} {E:Value->Shared->Prop} {s:Shared} {β:Type} {vs:List Value} {bs:List β} {enc:β->PyData} {R:Value->β->Prop}
theorem z8w {t:Addr} {kw:List (Str × Value)} {b:Bool} {Q:Value->Shared->Prop} (hkw:∀ a,Builtin.«list.sort» ⟨[.ref a],kw⟩=Builtin.«list.sort» ⟨[.ref a],[(Str.ofString "reverse",.bool b)]⟩) (ha1:argsOk "sorted" ⟨[.ref t],kw⟩) (ha2:∀ x,argsOk "list.sort" ⟨[.ref x],kw⟩)
  (ht:IsTup s.heap t vs.toArray) (e:EachIs R vs bs) (er:EachIs (fun v b=>∃ as,Reads s.heap v (enc b) as) vs bs) (hal:AllAlike (bs.map enc)) (hk:Sortable (bs.map enc)) (hL:bs.length<=sizeLine)
  (hu:∀ b,b ∈ bs->A.units+2+(enc b).depth < cLine)
  (h:∀ (out:List Value) (h' h2:Heap) (n:Nat),(∀ b o,s.heap.get? b=some o->h'.get? b=some o)->(∀ b o,h'.get? b=some o->h2.get? b=some o)->h2.get? h'.objs.size=some (seqObj "list" out.toArray n)->out.length=bs.length->EachIs R out (bs.mergeSort (dataLe b enc))->Q (.ref h'.objs.size) { s with heap:=h2 }) :
  wpAny (model prog w) A (call (.builtin "sorted") [.ref t] kw) Q E s:=by
 have hlen:vs.length<=sizeLine:=by rw [e.length]; exact hL
 obtain ⟨o,ho,hc,n0,hd⟩:=id ht;refine call_function_entry_kw kind_sorted plain_sorted entry_sorted ha1 ?_;unfold Builtin.«sorted»;refine wpAny_bind (m:=checkCount "sorted" 1 1 _) (wpAny_pure ?_);refine wpAny_bind (wpAny_collect_seq t (.inr rfl) ho hc hd (fun h' hk'=>?_) (by rw [List.size_toArray]; exact hlen));refine wpAny_bind (wpAny_newList ?_ hlen);show wpAny _ _ _ _ _ { s with heap:=h'.push (seqObj "list" vs.toArray 0) };have hat:(h'.push (seqObj "list" vs.toArray 0)).get? h'.objs.size=some (seqObj "list" vs.toArray 0):=Heap.get?_push_size _ rfl;refine wpAny_bind (wpAny_holding (wpAny_call_entry_kw slot_list_sort ⟨_,hat,rfl⟩ entry_list_sort ?body (ha2 _)))
 case body =>
  rw [hkw];have old:∀ b o,h'.get? b=some o->(sortingHeap (h'.push (seqObj "list" vs.toArray 0)) h'.objs.size vs).get? b=some o:=fun b o q=>sortingHeap_old (Nat.ne_of_lt (Heap.lt_size q)) (Heap.get?_push_of_some _ q);have er':EachIs (fun v b=>∃ as,Reads (sortingHeap (h'.push (seqObj "list" vs.toArray 0)) h'.objs.size vs) v (enc b) as) vs bs:=er.mono fun _ _ ⟨as,r⟩=>⟨as,PyProof.Rows.Reads.keeps (fun b o q=>old b o (hk' b o q)) r⟩;refine list_sort_rev_vals (s:={ s with heap:=h'.push (seqObj "list" vs.toArray 0) }) (κ:=dataKind (sortingHeap (h'.push (seqObj "list" vs.toArray 0)) h'.objs.size vs) (bs.map enc)) hat (SortsAt.data (s:={ s with heap:=sortingHeap (h'.push (seqObj "list" vs.toArray 0)) h'.objs.size vs }) (each_map (R:=fun v d=>∃ as,Reads (sortingHeap (h'.push (seqObj "list" vs.toArray 0)) h'.objs.size vs) v d as) enc er') hal hk (bound_map hu)) hlen ?_;refine ⟨_,rfl,wpAny_pure ⟨_,rfl,?_⟩⟩;obtain ⟨n2,hn2⟩:=sortedHeap_at (out:=(sortVals (dataKind (sortingHeap (h'.push (seqObj "list" vs.toArray 0)) h'.objs.size vs) (bs.map enc)) b vs vs).toArray) hat;refine h _ h' _ n2 hk' (fun b o q=>?_) hn2 (by rw [sortVals_length b rfl]; exact e.length) (sortVals_data b e er' hal);rw [sortedHeap_old (Nat.ne_of_lt (Heap.lt_size q)) (by rw [size_push']; exact Nat.lt_succ_of_lt (Heap.lt_size q))];exact Heap.get?_push_of_some _ q
end
def z8g (K:Qn) {β:Type} (enc:β->PyData) (b:Bool) (vs:List V) (H:Hp) (Q:VK):Prop:=∃ (a:Addr) (xs:List V) (bs:List β),vs=[V.ref a]/\SqT K H a xs/\Bears K H enc xs bs/\AllAlike (bs.map enc)/\Sortable (bs.map enc)/\bs.length<=10000000/\(∀ b ∈ bs,(enc b).depth<=100) /\
 ∀ (p:Addr) (ys:List V),H p=none->Bears K H enc ys (bs.mergeSort (dataLe b enc))->Q (.ref p) (upd H p (.lst ys))
section
variable {X:Cx}
theorem z8y {β:Type} {enc:β->PyData} {b:Bool} {kw:List (Str × Value)} (hu:X.A.units+110 < cLine) (hkw:∀ a,Builtin.«list.sort» ⟨[.ref a],kw⟩=Builtin.«list.sort» ⟨[.ref a],[(Str.ofString "reverse",.bool b)]⟩) (ha1:∀ t,argsOk "sorted" ⟨[.ref t],kw⟩) (ha2:∀ x,argsOk "list.sort" ⟨[.ref x],kw⟩)
  {pins:List (Addr × Obj)} {s:Shared} {σ:L2.St} {H:Hp} {vs:List V} {us:List Value} {Q:VK} (I:Inv X pins σ H s) (r:Vals vs us) (h:z8g X.K enc b vs H Q):wpAny (model X.prog X.w) X.A (call (.builtin "sorted") us kw) (EP X pins σ Q) X.xe s:=by
 obtain ⟨a,xs,bs,rfl,hs,hb,hal,hsr,hl,hd,q⟩:=h;obtain ⟨its,rv,hli,_⟩:=I.tuple hs;rw [Vals.ref1 r];obtain ⟨e1,e2⟩:=z3v I hb rv;refine z8w (vs:=its) (bs:=bs) (enc:=enc) (R:=fun u b=>∃ v,RelV v u/\Dp X.K H v (enc b)) hkw (ha1 _) ha2 hli e1 e2 hal hsr (by rw [sizeLine_eq]; omega) (fun b m=>by have:=hd b m; omega) fun out h' h2 n k1 k2 hat ho h1=>?_;obtain ⟨ys,g2,g3⟩:=z71 h1;have I':Inv X pins σ H { s with heap:=h' }:=I.kept (t':=s.toks) k1;have hlen:ys.length<=sizeLine:=by rw [g2.length,ho,sizeLine_eq]; omega
 exact ⟨.ref _,upd H h'.objs.size (.lst ys),I'.laid (t':=s.toks) (fun b o e=>k2 b o e) (Yc _) ⟨hlen,out,n,g2,hat⟩,rfl,q _ ys (I'.hok.fresh (Yc _)) g3⟩
theorem za3 {β:Type} (enc:β->PyData) (hu:X.A.units+110 < cLine):CallR X (.builtin "sorted") (z8g X.K enc false):=by
 intro pins s σ H vs us Q I r h;exact z8y (kw:=[]) hu plain_is_rev (fun _=>args_sorted1 _) (fun _=>args_list_sort _) I r h
end
section
variable {γ:Type} [DecidableEq γ]
def z0p (enc:γ->PyData) (p:γ × Int):PyData:=.tuple [enc p.1,.int p.2]
def z08 (acc:List (γ × Int)) (p:γ × Int):List (γ × Int):=match acc.getLast? with
 | some q=>if q.1=p.1 then acc.dropLast++[(p.1,q.2+p.2)] else acc++[p]
 | none=>[p]
def jn (bs:List (γ × Int)):List (γ × Int):=bs.foldl z08 []
theorem z0t (p:γ × Int):z08 [] p=[p]:=rfl
theorem z0d (acc:List (γ × Int)) (q p:γ × Int):z08 (acc++[q]) p=if q.1=p.1 then acc++[(p.1,q.2+p.2)] else acc++[q]++[p]:=by
 unfold z08;rw [List.getLast?_append];simp
theorem z82 (acc:List (γ × Int)) (p:γ × Int):(z08 acc p).length<=acc.length+1:=by
 rcases List.eq_nil_or_concat acc with h | ⟨a,q,h⟩
 ·subst h; simp [z08]
 ·subst h;rw [List.concat_eq_append,z0d]
  split <;> simp
theorem z9e (bs:List (γ × Int)) (i:Nat) (p:γ × Int) (h:bs[i]?=some p):jn (bs.take (i+1))=z08 (jn (bs.take i)) p:=by
 unfold jn;rw [Yg,h,List.foldl_append]
 rfl
theorem z7l (bs:List (γ × Int)):(jn bs).length<=bs.length:=by
 have key:∀ (bs acc:List (γ × Int)),(bs.foldl z08 acc).length<=acc.length+bs.length:=by
  intro bs
  induction bs with
  | nil=>intro acc; simp
  | cons p r ih =>
   intro acc;have h1:=ih (z08 acc p);have h2:=z82 acc p;show (r.foldl z08 (z08 acc p)).length<=_;rw [Yk];omega
 have:=key bs [];simpa [jn] using this
theorem z1h (bs:List (γ × Int)):∀ p ∈ jn bs,∃ q ∈ bs,q.1=p.1:=by
 have key:∀ (bs acc:List (γ × Int)),∀ p ∈ bs.foldl z08 acc,(∃ q ∈ acc,q.1=p.1)\/∃ q ∈ bs,q.1=p.1:=by
  intro bs
  induction bs with
  | nil=>intro acc p hp; exact .inl ⟨p,hp,rfl⟩
  | cons x r ih =>
   intro acc p hp;rcases ih (z08 acc x) p hp with ⟨q,hq,e⟩ | ⟨q,hq,e⟩
   ·rcases List.eq_nil_or_concat acc with h | ⟨a,z,h⟩
    ·subst h;rw [z0t] at hq;have:q=x:=by simpa using hq
     subst this;exact .inr ⟨q,mcs ..,e⟩
    ·subst h;rw [List.concat_eq_append] at hq ⊢;rw [z0d] at hq;by_cases hz:z.1=x.1
     ·rw [if_pos hz] at hq;rcases Qw hq with hq | hq
      ·exact .inl ⟨q,mal _ hq,e⟩
      ·have:q=(x.1,z.2+x.2):=by simpa using hq
       subst this;exact .inr ⟨x,mcs ..,e⟩
     ·rw [if_neg hz] at hq;rcases Qw hq with hq | hq
      ·exact .inl ⟨q,hq,e⟩
      ·have:q=x:=by simpa using hq
       subst this;exact .inr ⟨q,mcs ..,e⟩
   ·exact .inr ⟨q,mcm _ hq,e⟩
 intro p hp;rcases key bs [] p hp with ⟨q,hq,_⟩ | h
 ·cases hq
 ·exact h
theorem zh6 {bs:List (γ × Int)} (h:bs.Pairwise (fun a b=>a.1 ≠ b.1)):jn bs=bs:=by
 have key:∀ (bs acc:List (γ × Int)),(acc++bs).Pairwise (fun a b=>a.1 ≠ b.1)->bs.foldl z08 acc=acc++bs:=by
  intro bs
  induction bs with
  | nil=>intro acc _; simp
  | cons x r ih =>
   intro acc hp;have e:z08 acc x=acc++[x]:=by
    rcases List.eq_nil_or_concat acc with h | ⟨a,z,h⟩
    ·subst h; rfl
    ·subst h;rw [List.concat_eq_append] at hp ⊢;rw [z0d,if_neg];have h2:=(List.pairwise_append.mp hp).2.2 z (by simp) x (mcs ..);exact h2
   show r.foldl z08 (z08 acc x)=_;rw [e,ih]
   ·simp
   ·simpa using hp
 have:=key bs [] (by simpa using h);simpa [jn] using this
end
def z7x (K:Qn) {γ:Type} [DecidableEq γ] (enc:γ->PyData):Sp:=fun vs H Q _=>∃ (a:Addr) (xs:List V) (bs:List (γ × Int)),vs=[.ref a]/\SqL K H a xs/\Bears K H (z0p enc) xs bs/\bs.length<=2000000/\(∀ b ∈ bs,SeqAt.shaped (enc b.1)=true) /\
 ∀ (c:Addr) (ys:List V) (H':Hp),SB [] H H'->SqT K H' c ys->Bears K H' (z0p enc) ys (jn bs)->Q (.ref c) H'
theorem z9k {K:Qn} {H:Hp} {γ:Type} {enc:γ->PyData} {v:V} {p:γ × Int} (h:Dp K H v (z0p enc p)):∃ a u,v=.ref a/\SqT K H a [u,.int p.2]/\Dp K H u (enc p.1):=by
 have h':Dp K H v (.tuple [enc p.1,.int p.2]):=h;cases h' with
 | tup hs ha =>
  cases ha with
  | cons a1 a2 =>
   cases a2 with
   | cons b1 b2 =>
    cases b2;cases b1;exact ⟨_,_,rfl,hs,a1⟩
theorem z38 {γ:Type} {enc:γ->PyData} (hn:∀ g,z09 (enc g)=true) (p:γ × Int):z09 (z0p enc p)=true:=by simp [z0p,z09,z0c,hn]
theorem z99 {K:Qn} {H:Hp} {γ:Type} {enc:γ->PyData} {a:Addr} {u:V} {g:γ} {m:Int} (h:SqT K H a [u,.int m]) (h2:Dp K H u (enc g)):Dp K H (.ref a) (z0p enc (g,m)):=Dp.tup h (.cons h2 (.cons (.int m) .nil))
theorem Bears.snoc {K:Qn} {H:Hp} {β:Type} {enc:β->PyData} {vs:List V} {bs:List β} {b:β} (h:Bears K H enc vs (bs++[b])):∃ us u,vs=us++[u]/\Bears K H enc us bs/\Dp K H u (enc b):=by
 induction bs generalizing vs with
 | nil =>
  cases h with
  | cons h1 h2=>cases h2; exact ⟨[],_,rfl,.nil,h1⟩
 | cons c r ih =>
  cases h with
  | cons h1 h2 =>
   obtain ⟨us,u,e,h3,h4⟩:=ih h2;exact ⟨_::us,u,by rw [e]; rfl,.cons h1 h3,h4⟩
theorem z1t {xs:List V} {x:V}:atI (xs++[x]) (-1)=some x:=by
 unfold atI ixN;rw [if_neg (by decide),if_pos (by rw [Yf,Yi]; omega)];simp only [Yf,Yi,Option.bind_some];have:((-1:Int)+((xs.length+1:Nat):Int)).toNat=xs.length:=by omega
 rw [this];simp
theorem zbk {xs:List V} {x:V}:ixN (xs++[x]).length (-1)=some xs.length:=by
 unfold ixN;rw [if_neg (by decide),if_pos (by rw [Yf,Yi]; omega),Yf,Yi]
 congr 1; omega
theorem zc2 {xs:List V} {x y:V}:(xs++[x]).set xs.length y=xs++[y]:=by simp
namespace Lad
theorem anti {a b:Lad × Int} (h1:dataLt (pEnc a) (pEnc b)=false) (h2:dataLt (pEnc b) (pEnc a)=false):a=b:=by
 rw [pLt] at h1 h2;by_cases h:a.1=b.1
 ·rw [if_pos h] at h1;rw [if_pos h.symm] at h2;have e1:=of_decide_eq_false h1;have e2:=of_decide_eq_false h2;exact Prod.ext h (by omega)
 ·rw [if_neg h] at h1;rw [if_neg (fun z:b.1=a.1=>h z.symm),lt_tri _ _ h h1] at h2;cases h2
abbrev dsc (bs:List (Lad × Int)):List (Lad × Int):=bs.mergeSort (dataLe true pEnc)
theorem dsc_perm (bs:List (Lad × Int)):(dsc bs).Perm bs:=List.mergeSort_perm _ _
theorem dsc_le (bs:List (Lad × Int)):(dsc bs).Pairwise (fun a b=>dataLt (pEnc a) (pEnc b)=false):=by
 have h:=sort_pairwise (le:=dataLe true pEnc) (sortLe_total _ _ _) bs;refine h.imp fun {a b} hab=>?_;have h2:(!dataLt (pEnc a) (pEnc b))=true:=hab;simpa using h2
theorem falls_one:∀ {as bs:List (Lad × Int)},as.Perm bs->as.Pairwise (fun a b=>dataLt (pEnc a) (pEnc b)=false)->bs.Pairwise (fun a b=>dataLt (pEnc a) (pEnc b)=false)->as=bs
 | [],bs,h,_,_=>(List.nil_perm.mp h).symm
 | a::as,[],h,_,_=>by have:=h.length_eq; simp at this
 | a::as,b::bs,h,h1,h2=>by
  have hab:a=b:=by
   have ha:a ∈ b::bs:=h.mem_iff.mp (mcs ..);have hb:b ∈ a::as:=h.mem_iff.mpr (mcs ..);rcases Qv ha with ha | ha
   ·exact ha
   ·rcases Qv hb with hb | hb
    ·exact hb.symm
    ·exact anti ((List.pairwise_cons.mp h1).1 b hb) ((List.pairwise_cons.mp h2).1 a ha)
  subst hab;rw [falls_one (List.Perm.cons_inv h) (List.pairwise_cons.mp h1).2 (List.pairwise_cons.mp h2).2]
theorem dsc_of {cs bs:List (Lad × Int)} (hp:cs.Perm bs) (hs:cs.Pairwise (fun a b=>dataLt (pEnc a) (pEnc b)=false)):cs=dsc bs:=falls_one (hp.trans (dsc_perm bs).symm) hs (dsc_le bs)
theorem dsc_swap (as bs:List (Lad × Int)):dsc (as++bs)=dsc (bs++as):=dsc_of ((dsc_perm _).trans List.perm_append_comm) (dsc_le _)
def bth (l k:Lad):Lad:=ofPs (jn (dsc (l.ps++k.ps)))
theorem bth_comm (l k:Lad):bth l k=bth k l:=by unfold bth; rw [dsc_swap]
theorem ok_falls {B:Int} {l:Lad} (h:l.Ok B):l.ps.Pairwise (fun a b=>dataLt (pEnc a) (pEnc b)=false)/\l.ps.Pairwise (fun a b=>a.1 ≠ b.1):=by
 have h2:=(ok_iff.mp h).2;constructor
 ·refine h2.imp fun {a b} hab=>?_;rw [pLt,if_neg (fun z:a.1=b.1=>lt_ne hab z.symm)];exact lt_asymm hab
 ·exact h2.imp fun {a b} hab (z:a.1=b.1)=>lt_ne hab z.symm
theorem bth_nil {B:Int} {l:Lad} (h:l.Ok B):bth l .nil=l:=by
 unfold bth;rw [show l.ps++(Lad.nil).ps=l.ps by simp [ps],<- dsc_of (List.Perm.refl _) (ok_falls h).1,zh6 (ok_falls h).2,ofPs_ps]
theorem tot_jstep (acc:List (Lad × Int)) (p:Lad × Int):tot (z08 acc p)<=tot acc+(1+p.1.parts):=by
 rcases List.eq_nil_or_concat acc with h | ⟨a,z,h⟩
 ·subst h; simp [z0t,tot]
 ·subst h;rw [List.concat_eq_append,z0d];by_cases hz:z.1=p.1
  ·rw [if_pos hz,tot_append,tot_append]; simp only [tot]; rw [hz]; omega
  ·rw [if_neg hz,tot_append,tot_append]; simp only [tot]; omega
theorem tot_jn (bs:List (Lad × Int)):tot (jn bs)<=tot bs:=by
 have key:∀ (bs acc:List (Lad × Int)),tot (bs.foldl z08 acc)<=tot acc+tot bs:=by
  intro bs
  induction bs with
  | nil=>intro acc; simp [tot]
  | cons x r ih =>
   intro acc;have h1:=ih (z08 acc x);have h2:=tot_jstep acc x;show tot (r.foldl z08 (z08 acc x))<=tot acc+(1+x.1.parts+tot r);omega
 have:=key bs [];simpa [jn,tot] using this
theorem bth_parts (l k:Lad):(bth l k).parts<=l.parts+k.parts:=by
 unfold bth;rw [parts_ofPs];have h1:=tot_jn (dsc (l.ps++k.ps));rw [tot_perm (dsc_perm _),tot_append] at h1;have h2:l.parts=tot l.ps:=by rw [<- parts_ofPs,ofPs_ps]
 have h3:k.parts=tot k.ps:=by rw [<- parts_ofPs,ofPs_ps]
 omega
theorem bth_deep {n:Nat} {l k:Lad} (hl:l.deep<=n) (hk:k.deep<=n):(bth l k).deep<=n:=by
 unfold bth;refine deep_ofPs fun b hb=>?_;obtain ⟨q,hq,e⟩:=z1h _ b hb;rw [<- e];rcases Qw ((dsc_perm _).mem_iff.mp hq) with h | h
 ·exact deep_parts_mem hl q h
 ·exact deep_parts_mem hk q h
def tms (l:Lad) (m:Int):Lad:=if m=0 then .nil else ofPs (l.ps.map fun p=>(p.1,p.2*m))
theorem tot_map (f:Int->Int):∀ bs:List (Lad × Int),tot (bs.map fun p=>(p.1,f p.2))=tot bs
 | []=>rfl
 | p::r=>by show 1+p.1.parts+tot _=1+p.1.parts+tot r; rw [tot_map f r]
theorem tms_parts (l:Lad) (m:Int):(tms l m).parts<=l.parts:=by
 unfold tms
 split
 ·exact Nat.zero_le _
 ·rw [parts_ofPs,tot_map (fun x=>x*m),<- parts_ofPs,ofPs_ps]; exact Yc _
theorem tms_deep {n:Nat} {l:Lad} (m:Int) (h:l.deep<=n):(tms l m).deep<=n:=by
 unfold tms
 split
 ·exact Nat.zero_le _
 ·refine deep_ofPs fun b hb=>?_;obtain ⟨p,hp,rfl⟩:=Qx hb;exact deep_parts_mem h p hp
end Lad
def zb5 (K:Qn):Sp:=fun vs H Q _=>∃ (v u:V) (l k:Lad),vs=[v,u]/\LA K H v l/\LA K H u k/\l.deep<=30/\k.deep<=30/\l.parts<=800000/\k.parts<=800000/\∀ (x:V) (H':Hp),SB [] H H'->LA K H' x (l.bth k)->Q x H'
def z27 (K:Qn):Sp:=fun vs H Q _=>∃ (v:V) (l:Lad) (m:Int),vs=[v,.int m]/\LA K H v l/\l.parts<=900000/\(∀ p ∈ l.ps,0<=p.2/\p.2 < 2 ^ 2000)/\0<=m/\m < 2 ^ 2000/\∀ (x:V) (H':Hp),SB [] H H'->LA K H' x (l.tms m)->Q x H'
namespace Lad
theorem sumAt_nil (x:Lad):sumAt [] x=0:=rfl
theorem sumAt_cons (e:Lad) (m:Int) (r:List (Lad × Int)) (x:Lad):sumAt ((e,m)::r) x=(if e=x then m else 0)+sumAt r x:=by
 unfold sumAt;rw [List.filter_cons];by_cases h:e=x
 ·simp [h]
 ·simp [h]
theorem sumAt_append (as bs:List (Lad × Int)) (x:Lad):sumAt (as++bs) x=sumAt as x+sumAt bs x:=by
 unfold sumAt;rw [List.filter_append,Yj,List.sum_append]
theorem sumAt_zero {bs:List (Lad × Int)} {x:Lad} (h:∀ p ∈ bs,p.1 ≠ x):sumAt bs x=0:=by
 unfold sumAt;have:bs.filter (fun p=>decide (p.1=x))=[]:=by
  rw [List.filter_eq_nil_iff];intro p hp;simpa using h p hp
 rw [this]; rfl
theorem sumAt_perm {as bs:List (Lad × Int)} (h:as.Perm bs) (x:Lad):sumAt as x=sumAt bs x:=by
 induction h with
 | nil=>rfl
 | cons p _ ih=>obtain ⟨e,m⟩:=p; rw [sumAt_cons,sumAt_cons,ih]
 | swap p q l=>obtain ⟨e,m⟩:=p; obtain ⟨e',m'⟩:=q; rw [sumAt_cons,sumAt_cons,sumAt_cons,sumAt_cons]; omega
 | trans _ _ h1 h2=>omega
theorem sumAt_jstep (acc:List (Lad × Int)) (p:Lad × Int) (x:Lad):sumAt (z08 acc p) x=sumAt acc x+(if p.1=x then p.2 else 0):=by
 obtain ⟨e,m⟩:=p;rcases List.eq_nil_or_concat acc with h | ⟨a,z,h⟩
 ·subst h; rw [z0t,sumAt_cons,sumAt_nil]; show (if e=x then m else 0)+0=0+(if e=x then m else 0); omega
 ·subst h;obtain ⟨e',m'⟩:=z;rw [List.concat_eq_append,z0d];by_cases hz:e'=e
  ·rw [if_pos hz,sumAt_append,sumAt_append,sumAt_cons,sumAt_cons,sumAt_nil];subst hz;by_cases hx:e'=x
   ·simp only [if_pos hx]; omega
   ·simp only [if_neg hx]; omega
  ·rw [if_neg hz,sumAt_append,sumAt_append,sumAt_cons,sumAt_cons,sumAt_nil]; show _=_+(if e=x then m else 0); omega
theorem sumAt_jn (bs:List (Lad × Int)) (x:Lad):sumAt (jn bs) x=sumAt bs x:=by
 have key:∀ (bs acc:List (Lad × Int)),sumAt (bs.foldl z08 acc) x=sumAt acc x+sumAt bs x:=by
  intro bs
  induction bs with
  | nil=>intro acc; show sumAt acc x=_; rw [sumAt_nil]; omega
  | cons p r ih =>
   intro acc;obtain ⟨e,m⟩:=p;show sumAt (r.foldl z08 (z08 acc (e,m))) x=_;rw [ih,sumAt_jstep,sumAt_cons];show _+(if e=x then m else 0)+_=_;omega
 have:=key bs [];rw [sumAt_nil] at this;unfold jn;omega
theorem sumAt_map (f:Int->Int) (hf:f 0=0) (hadd:∀ a b,f (a+b)=f a+f b):∀ (bs:List (Lad × Int)) (x:Lad),sumAt (bs.map fun p=>(p.1,f p.2)) x=f (sumAt bs x)
 | [],x=>by show sumAt [] x=_; rw [sumAt_nil,hf]
 | (e,m)::r,x=>by
  show sumAt ((e,f m)::r.map _) x=_;rw [sumAt_cons,sumAt_cons,sumAt_map f hf hadd r x,hadd];by_cases h:e=x
  ·rw [if_pos h,if_pos h]
  ·rw [if_neg h,if_neg h,hf]
abbrev S (l:Lad) (x:Lad):Int:=sumAt l.ps x
section
variable {B C:Int}
theorem S_top {e:Lad} {m:Int} {r:Lad} (h:(Lad.cons e m r).Ok B):S (.cons e m r) e=m:=by
 show sumAt ((e,m)::r.ps) e=m;rw [sumAt_cons,if_pos rfl,sumAt_zero fun p hp=>lt_ne (h.2.2.2.2 p hp)];omega
theorem S_above {e:Lad} {m:Int} {r x:Lad} (h:(Lad.cons e m r).Ok B) (hx:e.lt x=true):S (.cons e m r) x=0:=by
 show sumAt ((e,m)::r.ps) x=0;rw [sumAt_cons,if_neg (lt_ne hx),sumAt_zero fun p hp=>lt_ne (lt_trans _ _ _ (h.2.2.2.2 p hp) hx)]
 rfl
theorem S_mem {l:Lad} (h:l.Ok B) {p:Lad × Int} (hp:p ∈ l.ps):S l p.1=p.2:=by
 induction l with
 | nil=>cases hp
 | cons e m r _ ih =>
  rcases Qv hp with hp | hp
  ·subst hp; exact S_top h
  ·show sumAt ((e,m)::r.ps) p.1=p.2;rw [sumAt_cons,if_neg (fun z=>lt_ne (h.2.2.2.2 p hp) z.symm)];have:=ih h.2.2.2.1 hp;show 0+S r p.1=_;omega
theorem S_none {l x:Lad} (h:∀ p ∈ l.ps,p.1 ≠ x):S l x=0:=sumAt_zero h
theorem S_cases {l:Lad} (h:l.Ok B) (x:Lad):(S l x=0/\∀ p ∈ l.ps,p.1 ≠ x)\/(∃ m,(x,m) ∈ l.ps/\S l x=m/\1<=m/\m < B):=by
 by_cases hx:∃ p ∈ l.ps,p.1=x
 ·obtain ⟨p,hp,rfl⟩:=hx;have:=(ok_iff.mp h).1 p hp;exact .inr ⟨p.2,hp,S_mem h hp,this.2⟩
 ·have hx':∀ p ∈ l.ps,p.1 ≠ x:=fun p hp z=>hx ⟨p,hp,z⟩;exact .inl ⟨S_none hx',hx'⟩
theorem S_nonneg {l:Lad} (h:l.Ok B) (x:Lad):0<=S l x:=by
 rcases S_cases h x with h1 | ⟨m,_,h1,h2,_⟩ <;> omega
def LT' (l k:Lad):Prop:=∃ x,S l x < S k x/\∀ y,x.lt y=true->S l y=S k y
theorem lt_of {l k:Lad}:∀ (_:l.Ok B) (_:k.Ok C),l.lt k=true->LT' l k:=by
 induction l generalizing k with
 | nil =>
  intro hl hk h;cases k with
  | nil=>rw [lt_nil_nil] at h; cases h
  | cons e m r =>
   refine ⟨e,?_,fun y hy=>?_⟩
   ·rw [S_top hk]; show sumAt [] e < m; rw [sumAt_nil]; have:=hk.2.1; omega
   ·rw [S_above hk hy]; rfl
 | cons e m r _ ih =>
  intro hl hk h;cases k with
  | nil=>rw [lt_cons_nil] at h; cases h
  | cons e' m' r' =>
   rw [lt_cons] at h;by_cases he:e=e'
   ·subst he;rw [if_pos rfl] at h;by_cases hm:m=m'
    ·subst hm;rw [if_pos rfl] at h;obtain ⟨x,h1,h2⟩:=ih hl.2.2.2.1 hk.2.2.2.1 h;refine ⟨x,?_,fun y hy=>?_⟩
     ·show sumAt ((e,m)::r.ps) x < sumAt ((e,m)::r'.ps) x;rw [sumAt_cons,sumAt_cons];have:sumAt r.ps x < sumAt r'.ps x:=h1;omega
     ·show sumAt ((e,m)::r.ps) y=sumAt ((e,m)::r'.ps) y;rw [sumAt_cons,sumAt_cons];have:sumAt r.ps y=sumAt r'.ps y:=h2 y hy;omega
    ·rw [if_neg hm] at h;exact ⟨e,by rw [S_top hl,S_top hk]; exact of_decide_eq_true h,fun y hy=>by rw [S_above hl hy,S_above hk hy]⟩
   ·rw [if_neg he] at h;refine ⟨e',?_,fun y hy=>?_⟩
    ·rw [S_above hl h,S_top hk]; have:=hk.2.1; omega
    ·rw [S_above hl (lt_trans _ _ _ h hy),S_above hk hy]
theorem LT'.asymm {l k:Lad} (h:LT' l k) (h2:LT' k l):False:=by
 obtain ⟨x,a1,a2⟩:=h;obtain ⟨y,b1,b2⟩:=h2;by_cases e:x=y
 ·subst e; omega
 ·cases hxy:x.lt y with
  | true=>have:=a2 y hxy; omega
  | false=>have:=b2 x (lt_tri x y e hxy); omega
theorem lt_iff {l k:Lad} (hl:l.Ok B) (hk:k.Ok C):l.lt k=true ↔ LT' l k:=by
 constructor
 ·exact lt_of hl hk
 ·intro h;cases e:l.lt k with
  | true=>rfl
  | false =>
   by_cases hlk:l=k
   ·subst hlk; obtain ⟨x,h1,_⟩:=h; omega
   ·exact (LT'.asymm h (lt_of hk hl (lt_tri l k hlk e))).elim
theorem le_iff {l k:Lad} (hl:l.Ok B) (hk:k.Ok C) (h:¬ LT' l k):l.lt k=false:=by
 cases e:l.lt k with
 | false=>rfl
 | true=>exact (h (lt_of hl hk e)).elim
theorem ext {l k:Lad} (hl:l.Ok B) (hk:k.Ok C) (h:∀ x,S l x=S k x):l=k:=by
 by_cases e:l=k
 ·exact e
 ·cases hlk:l.lt k with
  | true=>obtain ⟨x,h1,_⟩:=lt_of hl hk hlk; have:=h x; omega
  | false=>obtain ⟨x,h1,_⟩:=lt_of hk hl (lt_tri l k e hlk); have:=h x; omega
theorem jn_desc {bs:List (Lad × Int)} (h:bs.Pairwise (fun a b=>a.1.lt b.1=false)):(jn bs).Pairwise (fun p q=>q.1.lt p.1=true):=by
 have key:∀ (bs acc:List (Lad × Int)),acc.Pairwise (fun p q=>q.1.lt p.1=true)->(∀ a ∈ acc,∀ b ∈ bs,a.1.lt b.1=false)->bs.Pairwise (fun a b=>a.1.lt b.1=false)->(bs.foldl z08 acc).Pairwise (fun p q=>q.1.lt p.1=true):=by
  intro bs
  induction bs with
  | nil=>intro acc h _ _; exact h
  | cons p r ih =>
   intro acc h1 h2 h3;obtain ⟨h31,h32⟩:=List.pairwise_cons.mp h3;refine ih (z08 acc p) ?_ ?_ h32
   ·rcases List.eq_nil_or_concat acc with h | ⟨a,z,h⟩
    ·subst h; rw [z0t]; exact List.pairwise_singleton _ _
    ·subst h;rw [List.concat_eq_append] at h1 h2 ⊢;rw [z0d];obtain ⟨a1,_,a3⟩:=List.pairwise_append.mp h1;by_cases hz:z.1=p.1
     ·rw [if_pos hz,List.pairwise_append];refine ⟨a1,List.pairwise_singleton _ _,fun x hx y hy=>?_⟩;have hy':y=(p.1,z.2+p.2):=by simpa using hy
      subst hy';show p.1.lt x.1=true;rw [<- hz]; exact a3 x hx z (by simp)
     ·rw [if_neg hz,List.pairwise_append];refine ⟨h1,List.pairwise_singleton _ _,fun x hx y hy=>?_⟩;have hy':y=p:=by simpa using hy
      subst hy';have hzp:y.1.lt z.1=true:=lt_tri _ _ hz (h2 z (by simp) y (mcs ..));rcases Qw hx with hx | hx
      ·exact lt_trans _ _ _ hzp (a3 x hx z (by simp))
      ·have hx':x=z:=by simpa using hx
       subst hx'; exact hzp
   ·intro a ha b hb;have hpb:=h31 b hb;rcases List.eq_nil_or_concat acc with h | ⟨c,z,h⟩
    ·subst h;rw [z0t] at ha;have:a=p:=by simpa using ha
     subst this; exact hpb
    ·subst h;rw [List.concat_eq_append] at ha h2;rw [z0d] at ha;by_cases hz:z.1=p.1
     ·rw [if_pos hz] at ha;rcases Qw ha with ha | ha
      ·exact h2 a (mal _ ha) b (mcm _ hb)
      ·have:a=(p.1,z.2+p.2):=by simpa using ha
       subst this; exact hpb
     ·rw [if_neg hz] at ha;rcases Qw ha with ha | ha
      ·exact h2 a ha b (mcm _ hb)
      ·have:a=p:=by simpa using ha
       subst this; exact hpb
 exact key bs [] List.Pairwise.nil (by simp) h
theorem dsc_keys (bs:List (Lad × Int)):(dsc bs).Pairwise (fun a b=>a.1.lt b.1=false):=by
 refine (dsc_le bs).imp fun {a b} hab=>?_;rw [pLt] at hab;by_cases h:a.1=b.1
 ·rw [h]; exact lt_irrefl _
 ·rw [if_neg h] at hab; exact hab
theorem S_bth (l k x:Lad):S (bth l k) x=S l x+S k x:=by
 show sumAt (ofPs (jn (dsc (l.ps++k.ps)))).ps x=_;rw [ps_ofPs,sumAt_jn,sumAt_perm (dsc_perm _),sumAt_append]
theorem ok_pos {l:Lad} (h:l.Ok B) (hB:0<=B) (x:Lad):S l x<=B:=by
 rcases S_cases h x with h1 | ⟨m,_,h1,h2,h3⟩ <;> omega
theorem bth_ok {l k:Lad} (hl:l.Ok B) (hk:k.Ok C) (hB:1<=B) (hC:1<=C):(bth l k).Ok (B+C):=by
 have hd:(jn (dsc (l.ps++k.ps))).Pairwise (fun p q=>q.1.lt p.1=true):=jn_desc (dsc_keys _);show (ofPs (jn (dsc (l.ps++k.ps)))).Ok (B+C);rw [ok_ps];refine ⟨fun p hp=>?_,hd⟩;have hs:sumAt (jn (dsc (l.ps++k.ps))) p.1=p.2:=by
  have hnd:∀ (bs:List (Lad × Int)),bs.Pairwise (fun p q=>q.1.lt p.1=true)->∀ p ∈ bs,sumAt bs p.1=p.2:=by
   intro bs
   induction bs with
   | nil=>intro _ p hp; cases hp
   | cons q r ih =>
    intro hpw p hp;obtain ⟨e,m⟩:=q;obtain ⟨h1,h2⟩:=List.pairwise_cons.mp hpw;rw [sumAt_cons];rcases Qv hp with hp | hp
    ·subst hp;rw [if_pos rfl,sumAt_zero fun q hq=>lt_ne (h1 q hq)];omega
    ·rw [if_neg (fun z=>lt_ne (h1 p hp) z.symm),ih h2 p hp];omega
  exact hnd _ hd p hp
 have hs2:p.2=S l p.1+S k p.1:=by
  rw [<- hs,sumAt_jn,sumAt_perm (dsc_perm _),sumAt_append]
 obtain ⟨q,hq,eq⟩:=z1h _ p hp;have hq':=(dsc_perm _).mem_iff.mp hq;have n1:=S_nonneg hl p.1;have n2:=S_nonneg hk p.1;have hlt:S l p.1 < B:=by rcases S_cases hl p.1 with h1 | ⟨m,_,h1,h2,h3⟩ <;> omega
 have hkt:S k p.1 < C:=by rcases S_cases hk p.1 with h1 | ⟨m,_,h1,h2,h3⟩ <;> omega
 have grow:∀ (e:Lad),e.Ok B->e.Ok (B+C):=fun e h=>h.mono (by omega);have grow2:∀ (e:Lad),e.Ok C->e.Ok (B+C):=fun e h=>h.mono (by omega);rcases Qw hq' with hq2 | hq2
 ·have o:=(ok_iff.mp hl).1 q hq2;have sm:=S_mem hl hq2;rw [eq] at sm o;exact ⟨grow _ o.1,by omega,by omega⟩
 ·have o:=(ok_iff.mp hk).1 q hq2;have sm:=S_mem hk hq2;rw [eq] at sm o;exact ⟨grow2 _ o.1,by omega,by omega⟩
def cov (k x:Lad):Bool:=k.ps.all fun p=>!x.lt p.1
theorem cov_iff {k:Lad} (hk:k.Ok B) (x:Lad):cov k x=true ↔ ∀ y,x.lt y=true->S k y=0:=by
 unfold cov;rw [List.all_eq_true];constructor
 ·intro h y hy;refine S_none fun p hp z=>?_;have:=h p hp;rw [z,hy] at this;cases this
 ·intro h p hp;cases e:x.lt p.1 with
  | false=>rfl
  | true =>
   have h1:=h p.1 e;rw [S_mem hk hp] at h1;have:=(ok_iff.mp hk).1 p hp;omega
theorem S_bhd {l k:Lad} (hk:k.Ok B) (x:Lad):S (bhd l k) x=(if cov k x=true then S l x else 0)+S k x:=by
 cases k with
 | nil =>
  rw [bhd_nil];show S l x=(if cov .nil x=true then S l x else 0)+sumAt [] x;rw [sumAt_nil,if_pos (show cov .nil x=true from rfl)]; omega
 | cons e m r =>
  have hcov:cov (.cons e m r) x=!x.lt e:=by
   unfold cov;show (!x.lt e&&r.ps.all fun p=>!x.lt p.1)=_;cases h:x.lt e with
   | true=>rfl
   | false =>
    have:r.ps.all (fun p=>!x.lt p.1)=true:=by
     rw [List.all_eq_true];intro p hp;rw [le_trans (le_of_lt (hk.2.2.2.2 p hp)) h]; rfl
    rw [this]; rfl
  rw [bhd_cons];show sumAt (ofPs _).ps x=_;rw [ps_ofPs,sumAt_append,sumAt_cons,hcov];show sumAt (l.ps.filter fun p=>e.lt p.1) x+((if e=x then sumAt l.ps e+m else 0)+sumAt r.ps x)=(if (!x.lt e)=true then sumAt l.ps x else 0)+sumAt ((e,m)::r.ps) x;rw [sumAt_cons];have hf:sumAt (l.ps.filter fun p=>e.lt p.1) x=if e.lt x=true then sumAt l.ps x else 0:=by
   unfold sumAt;rw [List.filter_filter];by_cases h:e.lt x=true
   ·rw [if_pos h]
    congr 2
    refine List.filter_congr fun p hp=>?_;by_cases hp2:p.1=x
    ·simp [hp2,h]
    ·simp [hp2]
   ·rw [if_neg h];have:l.ps.filter (fun p=>decide (p.1=x)&&e.lt p.1)=[]:=by
     rw [List.filter_eq_nil_iff];intro p hp hc;rw [Bool.and_eq_true] at hc;have h1:p.1=x:=of_decide_eq_true hc.1;rw [h1] at hc;exact h hc.2
    rw [this]; rfl
  rw [hf];by_cases hx:e=x
  ·subst hx;rw [lt_irrefl];simp;omega
  ·cases h1:e.lt x with
   | true =>
    rw [lt_asymm h1];simp [hx]
   | false =>
    rw [lt_tri e x hx h1];simp [hx]
theorem bhd_ok {l k:Lad} (hl:l.Ok B) (hk:k.Ok C) (hB:1<=B) (hC:1<=C):(bhd l k).Ok (B+C):=by
 cases k with
 | nil=>rw [bhd_nil]; exact hl.mono (by omega)
 | cons e m r =>
  rw [bhd_cons,ok_ps];obtain ⟨h1,h2,h3,h4,h5⟩:=hk;obtain ⟨a1,a2⟩:=ok_iff.mp hl;obtain ⟨b1,b2⟩:=ok_iff.mp h4;have n1:=S_nonneg hl e;have hlt:S l e < B:=by rcases S_cases hl e with g1 | ⟨m,_,g1,g2,g3⟩ <;> omega
  constructor
  ·intro p hp;rcases Qw hp with hp | hp
   ·have:=a1 p (List.mem_filter.mp hp).1;exact ⟨this.1.mono (by omega),this.2.1,by omega⟩
   ·rcases Qv hp with hp | hp
    ·subst hp;exact ⟨h1.mono (by omega),by show 1<=S l e+m; omega,by show S l e+m < B+C; omega⟩
    ·have:=b1 p hp;exact ⟨this.1.mono (by omega),this.2.1,by omega⟩
  ·rw [List.pairwise_append,List.pairwise_cons];refine ⟨a2.sublist List.filter_sublist,⟨h5,b2⟩,fun a ha b hb=>?_⟩;have ha':=(List.mem_filter.mp ha).2;rcases Qv hb with hb | hb
   ·subst hb; exact ha'
   ·exact lt_trans _ _ _ (h5 b hb) ha'
theorem bth_ge_bhd {a b:Lad} (ha:a.Ok B) (hb:b.Ok C) (hB:1<=B) (hC:1<=C):(bth a b).lt (bhd a b)=false:=by
 refine le_iff (bth_ok ha hb hB hC) (bhd_ok ha hb hB hC) ?_
 rintro ⟨x,h1,_⟩
 rw [S_bth,S_bhd hb] at h1;have:=S_nonneg ha x
 split at h1 <;> omega
theorem cov_same {b c:Lad} (hb:b.Ok B) (hc:c.Ok C) {x:Lad} (h:∀ y,x.lt y=true->S b y=S c y):cov b x=cov c x:=by
 rw [Bool.eq_iff_iff,cov_iff hb,cov_iff hc];exact ⟨fun g y hy=>by rw [<- h y hy]; exact g y hy,fun g y hy=>by rw [h y hy]; exact g y hy⟩
theorem bhd_mono {a b c:Lad} {D:Int} (ha:a.Ok B) (hb:b.Ok C) (hc:c.Ok D) (hB:1<=B) (hC:1<=C) (hD:1<=D) (h:b.lt c=true):(bhd a b).lt (bhd a c)=true:=by
 rw [lt_iff (bhd_ok ha hb hB hC) (bhd_ok ha hc hB hD)];obtain ⟨x,h1,h2⟩:=lt_of hb hc h;refine ⟨x,?_,fun y hy=>?_⟩
 ·rw [S_bhd hb,S_bhd hc,cov_same hb hc h2]; omega
 ·rw [S_bhd hb,S_bhd hc,cov_same hb hc (x:=y) (fun z hz=>h2 z (lt_trans _ _ _ hy hz)),h2 y hy]
theorem bth_mono {a b c:Lad} {D:Int} (ha:a.Ok B) (hb:b.Ok C) (hc:c.Ok D) (hB:1<=B) (hC:1<=C) (hD:1<=D) (h:b.lt c=true):(bth a b).lt (bth a c)=true:=by
 rw [lt_iff (bth_ok ha hb hB hC) (bth_ok ha hc hB hD)];obtain ⟨x,h1,h2⟩:=lt_of hb hc h;exact ⟨x,by rw [S_bth,S_bth]; omega,fun y hy=>by rw [S_bth,S_bth,h2 y hy]⟩
theorem S_tms (l:Lad) (m:Int) (x:Lad):S (tms l m) x=S l x*m:=by
 unfold tms;by_cases h:m=0
 ·rw [if_pos h,h]; show sumAt [] x=_; rw [sumAt_nil,Int.mul_zero]
 ·rw [if_neg h];show sumAt (ofPs _).ps x=_;rw [ps_ofPs];exact sumAt_map (fun a=>a*m) (Int.zero_mul m) (fun a b=>Int.add_mul a b m) l.ps x
theorem tms_ok {l:Lad} {m:Int} (hl:l.Ok B) (hm:0<=m):(tms l m).Ok (B*m+B):=by
 unfold tms;by_cases h:m=0
 ·rw [if_pos h]; trivial
 ·rw [if_neg h,ok_ps];obtain ⟨a1,a2⟩:=ok_iff.mp hl;constructor
  ·intro p hp;obtain ⟨q,hq,rfl⟩:=Qx hp;obtain ⟨g1,g2,g3⟩:=a1 q hq;have hB:0<=B:=by omega
   have b1:q.2*m<=B*m:=Int.mul_le_mul_of_nonneg_right (by omega) hm;have b2:1*1<=q.2*m:=Int.mul_le_mul g2 (by omega) (by omega) (by omega);have b3:0<=B*m:=Int.mul_nonneg hB hm;exact ⟨g1.mono (by omega),by show 1<=q.2*m; omega,by show q.2*m < B*m+B; omega⟩
  ·rw [List.pairwise_map];exact a2
end
end Lad
section
variable {K:Qn} {H:Hp} {σ:L2.St} {Q:VK} {l k:Lad} {v u:V} {i j:Nat}
theorem eqT (h:l=k):PyData.eqv l.enc k.enc=true:=by rw [Lad.eqv_enc]; exact Ya h
theorem neF (h:l=k):(!PyData.eqv l.enc k.enc)=false:=by rw [eqT h]; rfl
end
namespace Lad
section
variable {B C:Int}
def rst:Lad->Lad->Lad
 | .nil,k=>k
 | .cons _ _ _,.nil=>.nil
 | .cons e m r,.cons e' m' r'=>if e=e' then (if m=m' then rst r r' else .cons e (m'-m) r') else .cons e' m' r'
theorem rst_nil (k:Lad):rst .nil k=k:=by unfold rst; rfl
theorem rst_cons (e e':Lad) (m m':Int) (r r':Lad):rst (.cons e m r) (.cons e' m' r')=if e=e' then (if m=m' then rst r r' else .cons e (m'-m) r') else .cons e' m' r':=by rw [rst]
theorem rst_parts:∀ l k:Lad,(rst l k).parts<=k.parts
 | .nil,k=>by rw [rst_nil]; exact Yc _
 | .cons _ _ _,.nil=>by rw [rst]; exact Yc _
 | .cons e m r,.cons e' m' r'=>by
  rw [rst_cons];have ih:=rst_parts r r';by_cases he:e=e'
  ·rw [if_pos he];by_cases hm:m=m'
   ·rw [if_pos hm]; show _<=1+e'.parts+r'.parts; omega
   ·rw [if_neg hm,he]; exact Yc _
  ·rw [if_neg he]; exact Yc _
theorem rst_deep:∀ l k:Lad,(rst l k).deep<=k.deep
 | .nil,k=>by rw [rst_nil]; exact Yc _
 | .cons _ _ _,.nil=>by rw [rst]; exact Yc _
 | .cons e m r,.cons e' m' r'=>by
  rw [rst_cons];have ih:=rst_deep r r';by_cases he:e=e'
  ·rw [if_pos he];by_cases hm:m=m'
   ·rw [if_pos hm]; show _<=max (1+e'.deep) r'.deep; omega
   ·rw [if_neg hm,he]; exact Yc _
  ·rw [if_neg he]; exact Yc _
theorem rst_keys:∀ l k:Lad,∀ p ∈ (rst l k).ps,∃ q ∈ k.ps,q.1=p.1
 | .nil,k=>by intro p hp; rw [rst_nil] at hp; exact ⟨p,hp,rfl⟩
 | .cons _ _ _,.nil=>by intro p hp; rw [rst] at hp; cases hp
 | .cons e m r,.cons e' m' r'=>by
  intro p hp;rw [rst_cons] at hp;by_cases he:e=e'
  ·rw [if_pos he] at hp;by_cases hm:m=m'
   ·rw [if_pos hm] at hp;obtain ⟨q,hq,e⟩:=rst_keys r r' p hp;exact ⟨q,mcm _ hq,e⟩
   ·rw [if_neg hm] at hp;rcases Qv hp with h | h
    ·subst h; exact ⟨(e',m'),mcs ..,he.symm⟩
    ·exact ⟨p,mcm _ h,rfl⟩
  ·rw [if_neg he] at hp; exact ⟨p,hp,rfl⟩
theorem not_lt_cons {e e':Lad} {m m':Int} {r r':Lad} (h:Lad.lt (.cons e' m' r') (.cons e m r)=false):(e=e'/\m=m'/\r'.lt r=false)\/(e=e'/\m < m')\/(e ≠ e'/\e.lt e'=true):=by
 rw [lt_cons] at h;by_cases he:e'=e
 ·rw [if_pos he] at h;by_cases hm:m'=m
  ·rw [if_pos hm] at h; exact .inl ⟨he.symm,hm.symm,h⟩
  ·rw [if_neg hm] at h;have:=of_decide_eq_false h;exact .inr (.inl ⟨he.symm,by omega⟩)
 ·rw [if_neg he] at h;exact .inr (.inr ⟨fun z=>he z.symm,lt_tri _ _ he h⟩)
theorem rst_ok:∀ {l k:Lad},l.Ok B->k.Ok C->k.lt l=false->(rst l k).Ok C
 | .nil,k,_,hk,_=>by rw [rst_nil]; exact hk
 | .cons _ _ _,.nil,_,_,_=>by rw [rst]; trivial
 | .cons e m r,.cons e' m' r',hl,hk,h=>by
  rw [rst_cons];obtain ⟨h1,h2,h3,h4,h5⟩:=hk;rcases not_lt_cons h with ⟨he,hm,hr⟩ | ⟨he,hm⟩ | ⟨he,_⟩
  ·rw [if_pos he,if_pos hm]; exact rst_ok hl.2.2.2.1 h4 hr
  ·rw [if_pos he,if_neg (by omega)];subst he;have:=hl.2.1;exact ⟨h1,by omega,by omega,h4,h5⟩
  ·rw [if_neg he]; exact ⟨h1,h2,h3,h4,h5⟩
theorem bhd_low {e:Lad} {m:Int} {r x:Lad} (h:∀ p ∈ x.ps,p.1.lt e=true):bhd (.cons e m r) x=.cons e m (bhd r x):=by
 cases x with
 | nil=>rfl
 | cons e2 m2 r2 =>
  have h2:e2.lt e=true:=h (e2,m2) (mcs ..);rw [bhd_cons,bhd_cons];show ofPs (((e,m)::r.ps).filter (fun p=>e2.lt p.1)++(e2,sumAt ((e,m)::r.ps) e2+m2)::r2.ps)=_;rw [List.filter_cons,if_pos h2,sumAt_cons,if_neg (fun z=>lt_ne h2 z.symm),Int.zero_add]
  rfl
theorem bhd_rst:∀ {l k:Lad},l.Ok B->k.Ok C->k.lt l=false->bhd l (rst l k)=k
 | .nil,k,_,_,_=>by rw [rst_nil,nil_bhd]
 | .cons e m r,.nil,_,_,h=>by rw [lt_nil_cons] at h; cases h
 | .cons e m r,.cons e' m' r',hl,hk,h=>by
  rw [rst_cons];obtain ⟨h1,h2,h3,h4,h5⟩:=hk;obtain ⟨g1,g2,g3,g4,g5⟩:=hl;rcases not_lt_cons h with ⟨he,hm,hr⟩ | ⟨he,hm⟩ | ⟨he,hlt⟩
  ·rw [if_pos he,if_pos hm];subst he; subst hm;rw [bhd_low,bhd_rst g4 h4 hr];intro p hp;obtain ⟨q,hq,eq⟩:=rst_keys r r' p hp;rw [<- eq]; exact h5 q hq
  ·rw [if_pos he,if_neg (by omega)];subst he;rw [bhd_cons];show ofPs (((e,m)::r.ps).filter (fun p=>e.lt p.1)++(e,sumAt ((e,m)::r.ps) e+(m'-m))::r'.ps)=_;have hf:((e,m)::r.ps).filter (fun p=>e.lt p.1)=[]:=by
    rw [List.filter_eq_nil_iff];intro p hp;rcases Qv hp with hp | hp
    ·subst hp; rw [lt_irrefl]; exact Bool.false_ne_true
    ·rw [lt_asymm (g5 p hp)]; exact Bool.false_ne_true
   rw [hf,sumAt_cons,if_pos rfl,sumAt_zero fun p hp=>lt_ne (g5 p hp)];show cons e (m+0+(m'-m)) (ofPs r'.ps)=_;rw [ofPs_ps,show m+0+(m'-m)=m' by omega]
  ·rw [if_neg he,bhd_cons];show ofPs (((e,m)::r.ps).filter (fun p=>e'.lt p.1)++(e',sumAt ((e,m)::r.ps) e'+m')::r'.ps)=_;have hall:∀ p ∈ (e,m)::r.ps,p.1.lt e'=true:=by
    intro p hp;rcases Qv hp with hp | hp
    ·subst hp; exact hlt
    ·exact lt_trans _ _ _ (g5 p hp) hlt
   have hf:((e,m)::r.ps).filter (fun p=>e'.lt p.1)=[]:=by
    rw [List.filter_eq_nil_iff];intro p hp;rw [lt_asymm (hall p hp)]; exact Bool.false_ne_true
   rw [hf,sumAt_zero fun p hp=>lt_ne (hall p hp),Int.zero_add];show cons e' m' (ofPs r'.ps)=_;rw [ofPs_ps]
theorem nil_le (k:Lad):k ≠ .nil->Lad.lt .nil k=true:=by
 cases k with
 | nil=>intro h; exact absurd rfl h
 | cons e m r=>intro _; exact lt_nil_cons e m r
theorem bhd_ge {l k:Lad} (hl:l.Ok B) (hk:k.Ok C) (hB:1<=B) (hC:1<=C):(bhd l k).lt l=false:=by
 by_cases h:k=.nil
 ·subst h; rw [bhd_nil]; exact lt_irrefl _
 ·have:=bhd_mono (a:=l) (b:=.nil) (c:=k) (C:=1) hl trivial hk hB (by decide) hC (nil_le k h);rw [bhd_nil] at this;exact lt_asymm this
theorem rst_drop {l o:Lad} {k:Nat} {p q:Lad × Int} (hp:l.ps[k]?=some p) (hq:o.ps[k]?=some q):rst (ofPs (l.ps.drop k)) (ofPs (o.ps.drop k))=if p.1=q.1 then (if p.2=q.2 then rst (ofPs (l.ps.drop (k+1))) (ofPs (o.ps.drop (k+1))) else .cons p.1 (q.2-p.2) (ofPs (o.ps.drop (k+1)))) else .cons q.1 q.2 (ofPs (o.ps.drop (k+1))):=by
 have h1:k < l.ps.length:=(List.getElem?_eq_some_iff.mp hp).1;have h2:k < o.ps.length:=(List.getElem?_eq_some_iff.mp hq).1;have e1:l.ps[k]=p:=(List.getElem?_eq_some_iff.mp hp).2;have e2:o.ps[k]=q:=(List.getElem?_eq_some_iff.mp hq).2;rw [List.drop_eq_getElem_cons h1,List.drop_eq_getElem_cons h2,e1,e2];exact rst_cons _ _ _ _ _ _
theorem eqv_pEnc (p q:Lad × Int):PyData.eqv (pEnc p) (pEnc q)=(decide (p.1=q.1)&&decide (p.2=q.2)):=by
 simp [pEnc,PyData.eqv,PyData.eqvAll,Lad.eqv_enc,ib]
theorem shaped_pEnc {p:Lad × Int} (h:p.1.deep<=29):SeqAt.shaped (pEnc p)=true:=by
 have h1:=pEnc_depth p;have h2:=shaped_enc (l:=p.1) (by omega);unfold SeqAt.shaped at h2 ⊢;rw [Bool.and_eq_true] at h2 ⊢;refine ⟨?_,by simp; omega⟩;simp [pEnc,PyData.canLay0,PyData.canLayAll0,h2.1]
end
end Lad
structure Own (K:Qn) (mg:Str->Option Value) (x:Str) (C:Addr):Prop where
 gC:mg x=some (.ref C)
 q:PySem.W.excIn K C He.veBase "ValueError.__new__"=true
 k:PySem.W.keepIn K (.ref C)=true
 s:PySem.W.subIn K (.ref C) (.type "BaseException")=some true
 t:PySem.W.typeIn K (.ref C)=some (.type "type")
def zak (K:Qn) (C:Addr):Sp:=fun vs H Q E=>∃ (v u:V) (l k:Lad),vs=[v,u]/\LA K H v l/\LA K H u k/\l.deep<=29/\k.deep<=29/\l.parts<=900000/\k.parts<=900000 /\
 (k.lt l=false->∀ (x:V) (H':Hp),SB [] H H'->LA K H' x (l.rst k)->Q x H')/\(k.lt l=true->E (.ref C) none H)
structure GotX (P:Program) (w:World) (K:Qn) (mg:Str->Option Value) (base:Heap) (x:Str) (ps:List Str) (k:Nat) (sp:Sp):Prop where
 ex:∃ (f:Addr) (fd:FuncData),FnOk P w K mg base (L2.CX P w) k f fd ps sp/\PySem.W.keepIn K (.ref f)=true/\Binds K fd ps []/\mg x=some (.ref f)
section
variable {X:Cx} {x:Str} {ps:List Str} {k:Nat} {sp:Sp} {e:Expr} {es:List Expr} {t:TA} {p pos:Pos}
theorem z3t (G:GotX X.prog X.w X.K X.mg X.base x ps k sp) (hr:Room k X.A) (hg:Gl X x) (ha:PA X (e::es) t) (hdb:(x == ("__debug__":Str))=false:=by decide) (he:starEach (e::es) X.env=(false,eval e X.env)::starEach es X.env:=by rfl) (hpl:(backTo pos (starEach es X.env)).any (·.1)=false:=by rfl) :
  PE X (.Call (.Name x p) (e::es) [] pos) (tCall sp [] E0 t):=by
 obtain ⟨f,fd,h1,h2,h3,h4⟩:=G.ex;exact pe_call h1 hr hg h4 h2 h3 .nil passL ha hdb he hpl
theorem z0k {W:WX} (G:GotX X.prog X.w X.K X.mg X.base x ps k sp) (hr:Room k X.A) (hg:Gl X x) (tk:Takes X W) (ha:PA X (e::es) t) (hdb:(x == ("__debug__":Str))=false:=by decide) (he:starEach (e::es) X.env=(false,eval e X.env)::starEach es X.env:=by rfl) (hpl:(backTo pos (starEach es X.env)).any (·.1)=false:=by rfl) :
  PE X (.Call (.Name x p) (e::es) [] pos) (tCallS sp (WE W) t):=by
 obtain ⟨f,fd,h1,h2,h3,h4⟩:=G.ex;exact pe_callS h1 hr hg h4 h2 h3 (fun σ=>passAt tk σ) ha hdb he hpl
end
abbrev AlE:Type:=He.AlD × Bool
def obsE (n:Nat) (fa:List He.Fa) (fn:List He.DefD) (ex:Qn->Bool) (g:Addr->Option Obj):AlE:=(He.obsD fa fn (He.frG g (He.asD g n)),ex (He.frG g (He.asD g n)))
def zcq (n:Nat) (fa:List He.Fa) (fn:List He.DefD) (ex:Qn->Bool):PySem.W.Hook where
 α:=AlE
 obs:=fun s=>obsE n fa fn ex s.heap.get?
 val:=fun _=>(He.valD fn,true)
 says:=fun _ h=>∃ K:Qn,K.In h/\He.SaysD fa fn K/\ex K=true
 of:=fun _ _ e=>⟨_,He.frG_in,congrArg (fun z:AlE=>z.1) e,congrArg (fun z:AlE=>z.2) e⟩
 keeps:=fun _ _ _ ⟨K,hK,c⟩ k=>⟨K,PySem.W.Frag.In.keeps hK k,c⟩
theorem zdi {n:Nat} {fa:List He.Fa} {fn:List He.DefD} {ex:Qn->Bool} {g:Addr->Option Obj} {s:Shared} (h:∀ a,g a=s.heap.get? a):obsE n fa fn ex g=(zcq n fa fn ex).obs s:=by
 have e:g=s.heap.get?:=funext h;rw [e] <;> rfl
section
variable {J:It} {n:Nat} {G:Hp->Prop} {Y:Nat->Hp->V->Hp->Prop}
theorem lcG (w:Walk J n G Y) {H0:Hp} {Qd:Hp->Prop} {body:(Hp->Prop)->V->Hp->Prop} (Pv:Nat->Hp->Prop) (h0:Pv 0 H0) (hG:∀ i H,i<=n->Pv i H->G H)
  (hs:∀ i x H H',i < n->Pv i H->Y i H x H'->body (Pv (i+1)) x H') (hd:∀ H,Pv n H->Qd H) :
  ∃ W:Nat->Nat->Hp->Prop,(∃ m,W 0 m H0)/\∀ i m H,W i m H ->
   (J.stop i H/\Qd H)\/(J.go i H/\∃ Nx:Hp->Prop,(∀ H',Nx H'->∃ m',m' < m/\W (i+1) m' H')/\∀ x H',J.yld i H x H'->body Nx x H'):=by
 refine ⟨fun i m H=>m=n-i/\i<=n/\Pv i H,⟨n,by simp,Nat.zero_le _,h0⟩,?_⟩
 rintro i m H ⟨rfl,hi,p⟩
 have q:=hG i H hi p;by_cases hlt:i < n
 ·exact .inr ⟨w.goes i H hlt q,Pv (i+1),fun H' p'=>⟨n-(i+1),by omega,rfl,hlt,p'⟩,fun x H' y=>hs i x H H' hlt p (w.yields i H x H' hlt q y)⟩
 ·have e:i=n:=by omega
  subst e;exact .inl ⟨w.stops H q,hd H p⟩
end
section
variable {prog:Program} {w:World} {A:Around} {E:Value->Shared->Prop} {s:Shared} {β:Type} {vs:List Value} {bs:List β} {enc:β->PyData} {R:Value->β->Prop}
theorem z8z {t:Addr} {kw:List (Str × Value)} {b:Bool} {Q:Value->Shared->Prop} (hkw:∀ a,Builtin.«list.sort» ⟨[.ref a],kw⟩=Builtin.«list.sort» ⟨[.ref a],[(Str.ofString "reverse",.bool b)]⟩) (ha1:argsOk "sorted" ⟨[.ref t],kw⟩) (ha2:∀ x,argsOk "list.sort" ⟨[.ref x],kw⟩)
  (ht:PlainL s.heap t vs.toArray) (e:EachIs R vs bs) (er:EachIs (fun v b=>∃ as,Reads s.heap v (enc b) as) vs bs) (hal:AllAlike (bs.map enc)) (hk:Sortable (bs.map enc)) (hL:bs.length<=sizeLine)
  (hu:∀ b,b ∈ bs->A.units+2+(enc b).depth < cLine)
  (h:∀ (out:List Value) (h' h2:Heap) (n:Nat),(∀ b o,s.heap.get? b=some o->h'.get? b=some o)->(∀ b o,h'.get? b=some o->h2.get? b=some o)->h2.get? h'.objs.size=some (seqObj "list" out.toArray n)->out.length=bs.length->EachIs R out (bs.mergeSort (dataLe b enc))->Q (.ref h'.objs.size) { s with heap:=h2 }) :
  wpAny (model prog w) A (call (.builtin "sorted") [.ref t] kw) Q E s:=by
 have hlen:vs.length<=sizeLine:=by rw [e.length]; exact hL
 obtain ⟨o,n0,ho,hc,_,hd⟩:=id ht;refine call_function_entry_kw kind_sorted plain_sorted entry_sorted ha1 ?_;unfold Builtin.«sorted»;refine wpAny_bind (m:=checkCount "sorted" 1 1 _) (wpAny_pure ?_);refine wpAny_bind (wpAny_collect_seq t (.inl rfl) ho hc hd (fun h' hk'=>?_) (by rw [List.size_toArray]; exact hlen));refine wpAny_bind (wpAny_newList ?_ hlen);show wpAny _ _ _ _ _ { s with heap:=h'.push (seqObj "list" vs.toArray 0) };have hat:(h'.push (seqObj "list" vs.toArray 0)).get? h'.objs.size=some (seqObj "list" vs.toArray 0):=Heap.get?_push_size _ rfl;refine wpAny_bind (wpAny_holding (wpAny_call_entry_kw slot_list_sort ⟨_,hat,rfl⟩ entry_list_sort ?body (ha2 _)))
 case body =>
  rw [hkw];have old:∀ b o,h'.get? b=some o->(sortingHeap (h'.push (seqObj "list" vs.toArray 0)) h'.objs.size vs).get? b=some o:=fun b o q=>sortingHeap_old (Nat.ne_of_lt (Heap.lt_size q)) (Heap.get?_push_of_some _ q);have er':EachIs (fun v b=>∃ as,Reads (sortingHeap (h'.push (seqObj "list" vs.toArray 0)) h'.objs.size vs) v (enc b) as) vs bs:=er.mono fun _ _ ⟨as,r⟩=>⟨as,PyProof.Rows.Reads.keeps (fun b o q=>old b o (hk' b o q)) r⟩;refine list_sort_rev_vals (s:={ s with heap:=h'.push (seqObj "list" vs.toArray 0) }) (κ:=dataKind (sortingHeap (h'.push (seqObj "list" vs.toArray 0)) h'.objs.size vs) (bs.map enc)) hat (SortsAt.data (s:={ s with heap:=sortingHeap (h'.push (seqObj "list" vs.toArray 0)) h'.objs.size vs }) (each_map (R:=fun v d=>∃ as,Reads (sortingHeap (h'.push (seqObj "list" vs.toArray 0)) h'.objs.size vs) v d as) enc er') hal hk (bound_map hu)) hlen ?_;refine ⟨_,rfl,wpAny_pure ⟨_,rfl,?_⟩⟩;obtain ⟨n2,hn2⟩:=sortedHeap_at (out:=(sortVals (dataKind (sortingHeap (h'.push (seqObj "list" vs.toArray 0)) h'.objs.size vs) (bs.map enc)) b vs vs).toArray) hat;refine h _ h' _ n2 hk' (fun b o q=>?_) hn2 (by rw [sortVals_length b rfl]; exact e.length) (sortVals_data b e er' hal);rw [sortedHeap_old (Nat.ne_of_lt (Heap.lt_size q)) (by rw [size_push']; exact Nat.lt_succ_of_lt (Heap.lt_size q))];exact Heap.get?_push_of_some _ q
end
def z51 (K:Qn) {β:Type} (enc:β->PyData) (b:Bool) (vs:List V) (H:Hp) (Q:VK):Prop:=∃ (a:Addr) (xs:List V) (bs:List β),vs=[V.ref a]/\SqL K H a xs/\Bears K H enc xs bs/\AllAlike (bs.map enc)/\Sortable (bs.map enc)/\bs.length<=10000000/\(∀ b ∈ bs,(enc b).depth<=100) /\
 ∀ (p:Addr) (ys:List V),H p=none->Bears K H enc ys (bs.mergeSort (dataLe b enc))->Q (.ref p) (upd H p (.lst ys))
section
variable {X:Cx}
theorem z4h {β:Type} {enc:β->PyData} {b:Bool} {kw:List (Str × Value)} (hu:X.A.units+110 < cLine) (hkw:∀ a,Builtin.«list.sort» ⟨[.ref a],kw⟩=Builtin.«list.sort» ⟨[.ref a],[(Str.ofString "reverse",.bool b)]⟩) (ha1:∀ t,argsOk "sorted" ⟨[.ref t],kw⟩) (ha2:∀ x,argsOk "list.sort" ⟨[.ref x],kw⟩)
  {pins:List (Addr × Obj)} {s:Shared} {σ:L2.St} {H:Hp} {vs:List V} {us:List Value} {Q:VK} (I:Inv X pins σ H s) (r:Vals vs us) (h:z51 X.K enc b vs H Q):wpAny (model X.prog X.w) X.A (call (.builtin "sorted") us kw) (EP X pins σ Q) X.xe s:=by
 obtain ⟨a,xs,bs,rfl,hs,hb,hal,hsr,hl,hd,q⟩:=h;obtain ⟨its,rv,hli,_⟩:=I.list hs;rw [Vals.ref1 r];obtain ⟨e1,e2⟩:=z3v I hb rv;refine z8z (vs:=its) (bs:=bs) (enc:=enc) (R:=fun u b=>∃ v,RelV v u/\Dp X.K H v (enc b)) hkw (ha1 _) ha2 hli e1 e2 hal hsr (by rw [sizeLine_eq]; omega) (fun b m=>by have:=hd b m; omega) fun out h' h2 n k1 k2 hat ho h1=>?_;obtain ⟨ys,g2,g3⟩:=z71 h1;have I':Inv X pins σ H { s with heap:=h' }:=I.kept (t':=s.toks) k1;have hlen:ys.length<=sizeLine:=by rw [g2.length,ho,sizeLine_eq]; omega
 exact ⟨.ref _,upd H h'.objs.size (.lst ys),I'.laid (t':=s.toks) (fun b o e=>k2 b o e) (Yc _) ⟨hlen,out,n,g2,hat⟩,rfl,q _ ys (I'.hok.fresh (Yc _)) g3⟩
theorem z9t {β:Type} (enc:β->PyData) (hu:X.A.units+110 < cLine):CallR X (.builtin "sorted") (z51 X.K enc false):=by
 intro pins s σ H vs us Q I r h;exact z4h (kw:=[]) hu plain_is_rev (fun _=>args_sorted1 _) (fun _=>args_list_sort _) I r h
theorem z8v {β:Type} (enc:β->PyData) {b:Bool} (hu:X.A.units+110 < cLine):CallRK X (.builtin "sorted") [Str.ofString "reverse"] (fun vs zs H Q=>zs=[.bl b]/\z51 X.K enc b vs H Q):=by
 intro pins s σ H vs zs us ws Q I r rz h;obtain ⟨rfl,h⟩:=h;obtain ⟨w1,rfl,e1⟩:=vals1 rz;obtain rfl:w1=Value.bool b:=e1;exact z4h hu (fun _=>rfl) (fun _=>args_sorted_rev _ _) (fun _=>args_list_sort_rev _ _) I r h
end
namespace Lad
def alh:Lad->Lad->Nat
 | .cons e m r,.cons e' m' r'=>if e=e'/\m=m' then 1+alh r r' else 0
 | _,_=>0
theorem alh_cons (e e':Lad) (m m':Int) (r r':Lad):alh (.cons e m r) (.cons e' m' r')=if e=e'/\m=m' then 1+alh r r' else 0:=by rw [alh]
theorem alh_nil_l (k:Lad):alh .nil k=0:=by cases k <;> rfl
theorem alh_nil_r (k:Lad):alh k .nil=0:=by cases k <;> rfl
theorem alh_drop {l o:Lad} {k:Nat} {p q:Lad × Int} (hp:l.ps[k]?=some p) (hq:o.ps[k]?=some q):alh (ofPs (l.ps.drop k)) (ofPs (o.ps.drop k))=if p.1=q.1/\p.2=q.2 then 1+alh (ofPs (l.ps.drop (k+1))) (ofPs (o.ps.drop (k+1))) else 0:=by
 have h1:k < l.ps.length:=(List.getElem?_eq_some_iff.mp hp).1;have h2:k < o.ps.length:=(List.getElem?_eq_some_iff.mp hq).1;have e1:l.ps[k]=p:=(List.getElem?_eq_some_iff.mp hp).2;have e2:o.ps[k]=q:=(List.getElem?_eq_some_iff.mp hq).2;rw [List.drop_eq_getElem_cons h1,List.drop_eq_getElem_cons h2,e1,e2];exact alh_cons _ _ _ _ _ _
theorem alh_end {l o:Lad} {k:Nat} (h:¬ (k < l.ps.length/\k < o.ps.length)):alh (ofPs (l.ps.drop k)) (ofPs (o.ps.drop k))=0:=by
 rcases Nat.lt_or_ge k l.ps.length with h1 | h1
 ·rw [List.drop_eq_nil_of_le (show o.ps.length<=k by omega)]; exact alh_nil_r _
 ·rw [List.drop_eq_nil_of_le h1]; exact alh_nil_l _
theorem alh_spec:∀ l o:Lad,alh l o<=l.ps.length/\alh l o<=o.ps.length/\l.lt o=(ofPs (l.ps.drop (alh l o))).lt (ofPs (o.ps.drop (alh l o)))/\o.lt l=(ofPs (o.ps.drop (alh l o))).lt (ofPs (l.ps.drop (alh l o)))/\rst l o=rst (ofPs (l.ps.drop (alh l o))) (ofPs (o.ps.drop (alh l o)))/\(∀ p q,l.ps[alh l o]?=some p->o.ps[alh l o]?=some q->¬ (p.1=q.1/\p.2=q.2))
 | .nil,o=>by
  rw [alh_nil_l];refine ⟨Nat.zero_le _,Nat.zero_le _,?_,?_,?_,fun p q h=>by simp [ps] at h⟩
  ·rw [List.drop_zero,List.drop_zero,ofPs_ps,ofPs_ps]
  ·rw [List.drop_zero,List.drop_zero,ofPs_ps,ofPs_ps]
  ·rw [List.drop_zero,List.drop_zero,ofPs_ps,ofPs_ps]
 | .cons e m r,.nil=>by
  rw [alh_nil_r];refine ⟨Nat.zero_le _,Nat.zero_le _,?_,?_,?_,fun p q _ h=>by simp [ps] at h⟩
  ·rw [List.drop_zero,List.drop_zero,ofPs_ps,ofPs_ps]
  ·rw [List.drop_zero,List.drop_zero,ofPs_ps,ofPs_ps]
  ·rw [List.drop_zero,List.drop_zero,ofPs_ps,ofPs_ps]
 | .cons e m r,.cons e' m' r'=>by
  rw [alh_cons];by_cases h:e=e'/\m=m'
  ·rw [if_pos h];obtain ⟨rfl,rfl⟩:=h;obtain ⟨h1,h2,h3,h4,h5,h6⟩:=alh_spec r r';have d1:(Lad.cons e m r).ps.drop (1+alh r r')=r.ps.drop (alh r r'):=by rw [Nat.add_comm]; rfl
   have d2:(Lad.cons e m r').ps.drop (1+alh r r')=r'.ps.drop (alh r r'):=by rw [Nat.add_comm]; rfl
   rw [d1,d2,<- h3,<- h4,<- h5];refine ⟨?_,?_,?_,?_,?_,?_⟩
   ·show _<=r.ps.length+1; omega
   ·show _<=r'.ps.length+1; omega
   ·rw [lt_cons,if_pos rfl,if_pos rfl]
   ·rw [lt_cons,if_pos rfl,if_pos rfl]
   ·rw [rst_cons,if_pos rfl,if_pos rfl]
   ·rw [Nat.add_comm]; exact h6
  ·rw [if_neg h];refine ⟨Nat.zero_le _,Nat.zero_le _,?_,?_,?_,fun p q hp hq=>?_⟩
   ·rw [List.drop_zero,List.drop_zero,ofPs_ps,ofPs_ps]
   ·rw [List.drop_zero,List.drop_zero,ofPs_ps,ofPs_ps]
   ·rw [List.drop_zero,List.drop_zero,ofPs_ps,ofPs_ps]
   ·have e1:(e,m)=p:=Yd hp;have e2:(e',m')=q:=Yd hq;rw [<- e1,<- e2]; exact h
def bths (ls:List Lad):Lad:=ofPs (jn (dsc (ls.flatMap ps)))
theorem bths_two (l k:Lad):bths [l,k]=bth l k:=by simp [bths,bth,List.flatMap]
end Lad
def z91 (K:Qn):Sp:=fun vs H Q _=>∃ (v u:V) (l k:Lad),vs=[v,u]/\LA K H v l/\LA K H u k/\l.deep<=29/\k.deep<=29/\l.parts<=1000000/\k.parts<=1000000/\Q (.int (Lad.alh l k:Nat)) H
def z73 (K:Qn):Sp:=fun vs H Q _=>∃ (v:V) (l:Lad),vs=[v]/\LA K H v l/\∀ (x:V) (H':Hp),SB [] H H'->LA K H' x (.cons l 1 .nil)->Q x H'
def z6n (K:Qn):Sp:=fun vs H Q _=>∃ (a:Addr) (xs:List V) (ls:List Lad),vs=[.ref a]/\SqL K H a xs/\Bears K H Lad.enc xs ls/\(∀ l ∈ ls,l.deep<=30)/\(ls.flatMap Lad.ps).length<=1900000/\∀ (x:V) (H':Hp),SB [] H H'->LA K H' x (Lad.bths ls)->Q x H'
namespace Lad
section
variable {B C D:Int}
abbrev uno:Lad:=.cons .nil 1 .nil
theorem num_one:Lad.num 1=uno:=if_neg (by decide)
theorem uno_ok:uno.Ok 2:=⟨trivial,by decide,by decide,trivial,by simp [ps]⟩
theorem S_uno (e x:Lad):S (.cons e 1 .nil) x=if e=x then 1 else 0:=by
 show sumAt ((e,1)::[]) x=_;rw [sumAt_cons,sumAt_nil,Int.add_zero]
theorem S_suc (e x:Lad):S (bhd e uno) x=S e x+if Lad.nil=x then 1 else 0:=by
 rw [S_bhd uno_ok,S_uno];have:cov uno x=true:=by simp [cov,ps,lt_nil_r]
 rw [if_pos this]
theorem suc_lt {e:Lad} (he:e.Ok B) (hB:1<=B):e.lt (bhd e uno)=true:=by
 rw [lt_iff he (bhd_ok he uno_ok hB (by decide))];refine ⟨.nil,?_,fun y hy=>?_⟩
 ·rw [S_suc,if_pos rfl]; omega
 ·rw [S_suc,if_neg (lt_ne hy),Int.add_zero]
theorem suc_least {e y:Lad} (he:e.Ok B) (hy:y.Ok C) (hB:1<=B) (h:e.lt y=true):bhd e uno=y\/(bhd e uno).lt y=true:=by
 have ho:=bhd_ok he uno_ok hB (by decide);obtain ⟨x,hx,hup⟩:=(lt_iff he hy).mp h;by_cases hn:x=.nil
 ·subst hn;have hz:∀ z,Lad.nil ≠ z->S e z=S y z:=fun z hz=>hup z (nil_le z fun q=>hz q.symm);by_cases hq:S e .nil+1=S y .nil
  ·left
   refine ext ho hy fun z=>?_;rw [S_suc];by_cases z0:Lad.nil=z
   ·subst z0; rw [if_pos rfl]; exact hq
   ·rw [if_neg z0,Int.add_zero]; exact hz z z0
  ·right
   rw [lt_iff ho hy];refine ⟨.nil,?_,fun z hz'=>?_⟩
   ·rw [S_suc,if_pos rfl]; omega
   ·rw [S_suc,if_neg (lt_ne hz'),Int.add_zero]; exact hz z (lt_ne hz')
 ·right
  rw [lt_iff ho hy];refine ⟨x,?_,fun z hz=>?_⟩
  ·rw [S_suc,if_neg (fun h=>hn h.symm),Int.add_zero]; exact hx
  ·have:Lad.nil ≠ z:=fun h=>by subst h; rw [lt_nil_r] at hz; cases hz
   rw [S_suc,if_neg this,Int.add_zero]; exact hup z hz
theorem sumAt_filter (e x:Lad):∀ bs:List (Lad × Int),sumAt (bs.filter fun p=>e.lt p.1) x=if e.lt x=true then sumAt bs x else 0
 | []=>by simp [sumAt_nil]
 | (a,m)::r=>by
  have ih:=sumAt_filter e x r;rw [List.filter_cons];by_cases h:e.lt a=true
  ·rw [if_pos h,sumAt_cons,sumAt_cons,ih];by_cases hx:e.lt x=true
   ·rw [if_pos hx,if_pos hx]
   ·have:a ≠ x:=fun z=>hx (z ▸ h);rw [if_neg hx,if_neg hx,if_neg this]; rfl
  ·rw [if_neg h,ih,sumAt_cons];by_cases hx:e.lt x=true
   ·have:a ≠ x:=fun z=>h (z ▸ hx);rw [if_pos hx,if_pos hx,if_neg this,Int.zero_add]
   ·rw [if_neg hx,if_neg hx]
theorem filter_ok {l:Lad} (h:l.Ok B) (g:Lad × Int->Bool):(ofPs (l.ps.filter g)).Ok B:=by
 have:=ok_iff.mp h;rw [ok_ps];exact ⟨fun p hp=>this.1 p (List.mem_filter.mp hp).1,this.2.filter _⟩
theorem filter_parts (l:Lad) (g:Lad × Int->Bool):(ofPs (l.ps.filter g)).parts<=l.parts:=by
 have h:=tot_filter g l.ps;rw [parts_ofPs];have h2:tot l.ps=l.parts:=by rw [<- parts_ofPs,ofPs_ps]
 omega
theorem filter_deep {n:Nat} {l:Lad} (g:Lad × Int->Bool) (h:l.deep<=n):(ofPs (l.ps.filter g)).deep<=n :=
 deep_ofPs fun b hb=>Nat.lt_of_lt_of_le (mem_deep l b (List.mem_filter.mp hb).1) h
def abv (l:Lad):Lad->Lad
 | .nil=>bth l uno
 | .cons e _ _=>bth (ofPs (l.ps.filter fun p=>e.lt p.1)) (.cons (bhd e uno) 1 .nil)
theorem pow_ok {e:Lad} (h:e.Ok B) (hB:2<=B):(Lad.cons e 1 .nil).Ok B:=⟨h,by decide,by omega,trivial,by simp [ps]⟩
theorem abv_ok {l k:Lad} (hl:l.Ok B) (hk:k.Ok C) (hB:1<=B) (hC:1<=C):(abv l k).Ok (B+(C+2)):=by
 cases k with
 | nil=>exact (bth_ok hl uno_ok hB (by decide)).mono (by omega)
 | cons e m r=>exact bth_ok (filter_ok hl _) (pow_ok (bhd_ok hk.1 uno_ok hC (by decide)) (by omega)) hB (by omega)
theorem abv_parts (l k:Lad):(abv l k).parts<=l.parts+k.parts+2:=by
 cases k with
 | nil=>have:=bth_parts l uno; show (bth l uno).parts<=_; have h1:uno.parts=1:=rfl; omega
 | cons e m r =>
  have h1:=bth_parts (ofPs (l.ps.filter fun p=>e.lt p.1)) (.cons (bhd e uno) 1 .nil);have h2:=filter_parts l fun p=>e.lt p.1;have h3:=bhd_parts e uno;have h4:(Lad.cons (bhd e uno) 1 .nil).parts=1+(bhd e uno).parts+0:=rfl;have h5:(Lad.cons e m r).parts=1+e.parts+r.parts:=rfl;have h6:uno.parts=1:=rfl;show (bth _ _).parts<=_;omega
theorem abv_deep {n:Nat} {l k:Lad} (hl:l.deep<=n) (hk:k.deep<=n) (hn:2<=n):(abv l k).deep<=n:=by
 cases k with
 | nil=>exact bth_deep hl (by show 1<=n; omega)
 | cons e m r =>
  refine bth_deep (filter_deep _ hl) ?_;have h1:1+e.deep<=n:=Yb (Nat.le_max_left _ _) hk;have h2:=bhd_deep (n:=n-1) (l:=e) (k:=uno) (by omega) (by show 1<=n-1; omega);show max (1+(bhd e uno).deep) 0<=n;omega
theorem S_abv (l e:Lad) (m:Int) (r x:Lad):S (abv l (.cons e m r)) x=(if e.lt x=true then S l x else 0)+if bhd e uno=x then 1 else 0:=by
 show S (bth _ _) x=_;rw [S_bth,S_uno];show sumAt (ofPs _).ps x+_=_;rw [ps_ofPs,sumAt_filter]
theorem btm_ok {l k:Lad} {n:Int} (hl:l.Ok B) (hk:k.Ok C) (hB:1<=B) (hC:1<=C) (hn:0<=n):(bth l (tms k n)).Ok (B+(C*n+C)):=by
 have:0<=C*n:=Int.mul_nonneg (by omega) hn;exact bth_ok hl (tms_ok hk hn) hB (by omega)
theorem S_btm (l k x:Lad) (n:Int):S (bth l (tms k n)) x=S l x+S k x*n:=by rw [S_bth,S_tms]
theorem abv_gt {l k:Lad} {n:Int} (hl:l.Ok B) (hk:k.Ok C) (hB:1<=B) (hC:1<=C) (hn:0<=n):(bth l (tms k n)).lt (abv l k)=true:=by
 rw [lt_iff (btm_ok hl hk hB hC hn) (abv_ok hl hk hB hC)];cases k with
 | nil =>
  have e0:∀ x,S Lad.nil x=0:=fun x=>rfl;refine ⟨.nil,?_,fun y hy=>?_⟩
  ·rw [S_btm];show _ < S (bth l uno) .nil;rw [S_bth,S_uno,if_pos rfl,e0,Int.zero_mul]; omega
  ·rw [S_btm];show _=S (bth l uno) y;rw [S_bth,S_uno,if_neg (lt_ne hy),e0,Int.zero_mul]
 | cons e m r =>
  have hes:=suc_lt hk.1 hC;refine ⟨bhd e uno,?_,fun y hy=>?_⟩
  ·rw [S_btm,S_abv,if_pos hes,if_pos rfl,S_above hk hes,Int.zero_mul]; omega
  ·have hy2:=lt_trans _ _ _ hes hy;rw [S_btm,S_abv,if_pos hy2,if_neg (lt_ne hy),S_above hk hy2,Int.zero_mul]
def eno:Lad->Lad->Int
 | .nil,_=>0
 | .cons e _ _,t=>1+S t e
theorem eno_nonneg {k t:Lad} (ht:t.Ok D):0<=eno k t:=by
 cases k with
 | nil=>exact Int.le_refl _
 | cons e m r=>have:=S_nonneg ht e; show 0<=1+S t e; omega
theorem abv_least {l k t:Lad} (hl:l.Ok B) (hk:k.Ok C) (ht:t.Ok D) (hB:1<=B) (hC:1<=C) (h:t.lt (abv l k)=true):(bth l (tms k (eno k t))).lt t=false:=by
 cases k with
 | nil =>
  rw [show eno .nil t=0 from rfl,show tms .nil 0=.nil from if_pos rfl,bth_nil hl];cases hlt:l.lt t with
  | false=>rfl
  | true =>
   exfalso
   have e:abv l .nil=bhd l uno:=ext (bth_ok hl uno_ok hB (by decide)) (bhd_ok hl uno_ok hB (by decide)) fun x=>by
    show S (bth l uno) x=_;rw [S_bth,S_suc,S_uno]
   rw [e] at h;rcases suc_least hl ht hB hlt with h1 | h1
   ·rw [h1,lt_irrefl] at h; cases h
   ·rw [lt_asymm h1] at h; cases h
 | cons e m r =>
  have he:e.Ok C:=hk.1;have hN:=eno_nonneg (k:=.cons e m r) ht;have hU:=btm_ok (n:=eno (.cons e m r) t) hl hk hB hC hN;have hes:e.lt (bhd e uno)=true:=suc_lt he hC;have Ua:∀ y,e.lt y=true->S (bth l (tms (.cons e m r) (eno (.cons e m r) t))) y=S l y:=fun y hy=>by
   rw [S_btm,S_above hk hy,Int.zero_mul,Int.add_zero]
  refine le_iff hU ht fun hlt=>?_;obtain ⟨x,hx,hup⟩:=(lt_iff ht (abv_ok hl hk hB hC)).mp h;have up2:∀ y,(x=y\/x.lt y=true)->(bhd e uno).lt y=true->x.lt y=true->S t y=S (bth l (tms (.cons e m r) (eno (.cons e m r) t))) y:=fun y _ hsy hxy=>by
   have h2:=lt_trans _ _ _ hes hsy;rw [hup y hxy,S_abv,if_pos h2,if_neg (lt_ne hsy),Int.add_zero,Ua y h2]
  by_cases hxs:bhd e uno=x
  ·subst hxs;rw [S_abv,if_pos hes,if_pos rfl] at hx;by_cases hq:S t (bhd e uno) < S l (bhd e uno)
   ·exact LT'.asymm hlt ⟨bhd e uno,by rw [Ua _ hes]; exact hq,fun y hy=>up2 y (.inr hy) hy hy⟩
   ·refine LT'.asymm hlt ⟨e,?_,fun y hy=>?_⟩
    ·rw [S_btm,S_top hk];have h1:=S_nonneg hl e;have h2:=S_nonneg ht e;have h3:=hk.2.1;show S t e < S l e+m*(1+S t e);have h4:1*(1+S t e)<=m*(1+S t e):=Int.mul_le_mul_of_nonneg_right h3 (by omega);omega
    ·by_cases hys:bhd e uno=y
     ·subst hys;rw [Ua _ hes]; omega
     ·have okc:(∃ E,y.Ok E)->S t y=S (bth l (tms (.cons e m r) (eno (.cons e m r) t))) y:=fun ⟨E,hyo⟩=>by
       rcases suc_least he hyo hC hy with h1 | h1
       ·exact absurd h1 hys
       ·exact up2 y (.inr h1) h1 h1
      rcases S_cases ht y with ⟨z,_⟩ | ⟨mm,hm,_⟩
      ·rcases S_cases hl y with ⟨z2,_⟩ | ⟨mm,hm,_⟩
       ·rw [Ua y hy,z,z2]
       ·exact okc ⟨_,((ok_iff.mp hl).1 _ hm).1⟩
      ·exact okc ⟨_,((ok_iff.mp ht).1 _ hm).1⟩
  ·by_cases hsx:(bhd e uno).lt x=true
   ·have hex:=lt_trans _ _ _ hes hsx;rw [S_abv,if_pos hex,if_neg hxs,Int.add_zero] at hx;exact LT'.asymm hlt ⟨x,by rw [Ua x hex]; exact hx,fun y hy=>up2 y (.inr hy) (lt_trans _ _ _ hsx hy) hy⟩
   ·have hx0:=S_nonneg ht x;rw [S_abv,if_neg hxs,Int.add_zero] at hx;by_cases hex:e.lt x=true
    ·rw [if_pos hex] at hx;rcases S_cases hl x with ⟨z,_⟩ | ⟨mm,hm,_⟩
     ·omega
     ·rcases suc_least he ((ok_iff.mp hl).1 _ hm).1 hC hex with h1 | h1
      ·exact hxs h1
      ·exact hsx h1
    ·rw [if_neg hex] at hx; omega
def spd:Lad->Lad->Lad
 | .cons e m r,.nil=>.cons e m r
 | .nil,.nil=>.nil
 | .nil,k=>k
 | .cons e _ _,k=>.cons (bhd e k) 1 .nil
end
end Lad
def z7s (K:Qn):Sp:=fun vs H Q _=>∃ (v u:V) (e:Lad) (m:Int) (r k:Lad),vs=[v,u]/\LA K H v (.cons e m r)/\LA K H u k/\(Lad.cons e m r).deep<=30/\k.deep<=30/\(Lad.cons e m r).parts<=900000/\k.parts<=900000/\∀ (x:V) (H':Hp),SB [] H H'->LA K H' x (Lad.spd (.cons e m r) k)->Q x H'
def z94 (K:Qn):Sp:=fun vs H Q _=>∃ (v u:V) (l k:Lad),vs=[v,u]/\LA K H v l/\LA K H u k/\l.deep<=29/\k.deep<=29/\l.parts<=390000/\k.parts<=390000/\∀ (x:V) (H':Hp),SB [] H H'->LA K H' x (l.abv k)->Q x H'
theorem z17 (x:PyData):dataLt x x=false:=lex_irrefl (O:=itemOrd) _
theorem z31 {x y z:PyData} (h:dataLt x y=true) (h2:dataLt y z=true):dataLt x z=true:=lex_trans (O:=itemOrd) _ _ _ h h2
theorem zbo {x y:PyData} (al:alike x y=true) (h:dataLt x y=false) (h2:dataLt y x=false):PyData.eqv x y=true:=by
 have e:keyToks x=keyToks y:=lex_total (O:=itemOrd) _ _ h h2;cases hq:PyData.eqv x y with
 | true=>rfl
 | false =>
  have t:=(toks_eqv x y al).2 hq [.inl 0] [.inl 1];rw [e] at t;have t2:PyProof.Rows.lexLt itemOrd (keyToks y++[.inl 0]) (keyToks y++[.inl 1])=PyProof.Rows.lexLt itemOrd [.inl 0] [.inl 1]:=lex_pre _ _ _;have t3:PyProof.Rows.lexLt itemOrd (keyToks y) (keyToks y)=false:=lex_irrefl (O:=itemOrd) _;rw [t2,t3,lex_one] at t
  revert t
  decide
theorem z2s {x y:PyData} (h:dataLt x y=true):dataLt y x=false:=by
 cases e:dataLt y x with
 | false=>rfl
 | true=>have:=z31 h e; rw [z17] at this; cases this
class Orderly {γ:Type} [DecidableEq γ] (enc:γ->PyData):Prop where
 al:∀ a b,alike (enc a) (enc b)=true
 eq:∀ a b,PyData.eqv (enc a) (enc b)=decide (a=b)
section
variable {γ:Type} [DecidableEq γ] {enc:γ->PyData} [O:Orderly enc]
theorem z6g {a b:γ} (hne:a ≠ b) (h:dataLt (enc a) (enc b)=false):dataLt (enc b) (enc a)=true:=by
 cases e:dataLt (enc b) (enc a) with
 | true=>rfl
 | false =>
  have:=zbo (O.al a b) h e;rw [O.eq] at this;exact absurd (of_decide_eq_true this) hne
theorem zcr {a b:γ} (h:dataLt (enc a) (enc b)=true):a ≠ b:=fun z=>by subst z; rw [z17] at h; cases h
instance:Orderly (z0p enc) where
 al a b:=by simp [z0p,alike,alikeAll,O.al a.1 b.1]
 eq a b:=by
  simp only [z0p,PyData.eqv,PyData.eqvAll,O.eq,Bool.and_true,ib];by_cases h:a=b
  ·subst h; simp
  ·rw [Qz h];rw [Bool.and_eq_false_iff];by_cases h1:a.1=b.1
   ·exact .inr (Qz fun h2=>h (Prod.ext h1 h2))
   ·exact .inl (Qz h1)
theorem zc0 (p q:γ × Int):dataLt (z0p enc p) (z0p enc q)=if p.1=q.1 then decide (p.2 < q.2) else dataLt (enc p.1) (enc q.1):=by
 unfold z0p;rw [dataLt_pair (O.al p.1 q.1) (by simp [alike]),O.eq];by_cases h:p.1=q.1
 ·rw [if_pos (by simp [h]),if_pos h,dataLt_int];by_cases h2:p.2=q.2
  ·simp [PyData.eqv,h2]
  ·simp [PyData.eqv,h2]
 ·rw [if_neg (by simp [h]),if_neg h]
def srtE (enc:γ->PyData) (bs:List γ):List γ:=bs.mergeSort (dataLe false enc)
theorem z18 (bs:List γ):(srtE enc bs).Perm bs:=List.mergeSort_perm _ _
theorem zdq (bs:List γ):(srtE enc bs).Pairwise (fun a b=>dataLt (enc b) (enc a)=false):=by
 have h:=List.pairwise_mergeSort (le:=dataLe false enc) (fun a b c h1 h2=>?_) (fun a b=>?_) bs
 ·refine h.imp fun {a b} hab=>?_;rw [dataLe_eq] at hab;simpa using hab
 ·rw [dataLe_eq] at h1 h2 ⊢;simp only [cond_false,Bool.not_eq_true'] at h1 h2 ⊢;by_cases hab:a=b
  ·subst hab; exact h2
  ·by_cases hbc:b=c
   ·subst hbc; exact h1
   ·exact z2s (z31 (z6g (fun z=>hab z.symm) h1) (z6g (fun z=>hbc z.symm) h2))
 ·rw [dataLe_eq];simp only [cond_false];cases e:dataLt (enc b) (enc a) with
  | false=>rfl
  | true=>rw [z2s e]; rfl
def sumE (ps:List (γ × Int)) (x:γ):Int:=match ps with
 | []=>0
 | p::r=>(if p.1=x then p.2 else 0)+sumE r x
theorem z0g (x:γ):∀ (as bs:List (γ × Int)),sumE (as++bs) x=sumE as x+sumE bs x
 | [],bs=>by simp [sumE]
 | p::r,bs=>by show _+sumE (r++bs) x=_; rw [z0g x r bs,sumE]; omega
theorem zb2 {as bs:List (γ × Int)} (h:as.Perm bs) (x:γ):sumE as x=sumE bs x:=by
 induction h with
 | nil=>rfl
 | cons y _ ih=>simp only [sumE]; omega
 | swap y z l=>simp only [sumE]; omega
 | trans _ _ h1 h2=>omega
theorem z9s (acc:List (γ × Int)) (p:γ × Int) (x:γ):sumE (z08 acc p) x=sumE acc x+(if p.1=x then p.2 else 0):=by
 rcases List.eq_nil_or_concat acc with h | ⟨a,z,h⟩
 ·subst h; rw [z0t]; simp [sumE]
 ·subst h;rw [List.concat_eq_append,z0d];by_cases hz:z.1=p.1
  ·rw [if_pos hz,z0g,z0g];simp only [sumE,hz];by_cases hx:p.1=x
   ·simp only [if_pos hx]; omega
   ·simp only [if_neg hx]; omega
  ·rw [if_neg hz,z0g]; simp only [sumE]; omega
theorem zdo (bs:List (γ × Int)) (x:γ):sumE (jn bs) x=sumE bs x:=by
 have key:∀ (bs acc:List (γ × Int)),sumE (bs.foldl z08 acc) x=sumE acc x+sumE bs x:=by
  intro bs
  induction bs with
  | nil=>intro acc; simp [sumE]
  | cons p r ih =>
   intro acc;show sumE (r.foldl z08 (z08 acc p)) x=_;rw [ih,z9s,sumE]; omega
 have:=key bs [];simpa [jn,sumE] using this
theorem zdf {bs:List (γ × Int)} (h:bs.Pairwise (fun a b=>dataLt (enc b.1) (enc a.1)=false)):(jn bs).Pairwise (fun p q=>dataLt (enc p.1) (enc q.1)=true):=by
 have key:∀ (bs acc:List (γ × Int)),acc.Pairwise (fun p q=>dataLt (enc p.1) (enc q.1)=true)->(∀ a ∈ acc,∀ b ∈ bs,dataLt (enc b.1) (enc a.1)=false)->bs.Pairwise (fun a b=>dataLt (enc b.1) (enc a.1)=false)->(bs.foldl z08 acc).Pairwise (fun p q=>dataLt (enc p.1) (enc q.1)=true):=by
  intro bs
  induction bs with
  | nil=>intro acc h _ _; exact h
  | cons p r ih =>
   intro acc h1 h2 h3;obtain ⟨h31,h32⟩:=List.pairwise_cons.mp h3;refine ih (z08 acc p) ?_ ?_ h32
   ·rcases List.eq_nil_or_concat acc with h | ⟨a,z,h⟩
    ·subst h; rw [z0t]; exact List.pairwise_singleton _ _
    ·subst h;rw [List.concat_eq_append] at h1 h2 ⊢;rw [z0d];obtain ⟨a1,_,a3⟩:=List.pairwise_append.mp h1;by_cases hz:z.1=p.1
     ·rw [if_pos hz,List.pairwise_append];refine ⟨a1,List.pairwise_singleton _ _,fun x hx y hy=>?_⟩;have hy':y=(p.1,z.2+p.2):=by simpa using hy
      subst hy';show dataLt (enc x.1) (enc p.1)=true;rw [<- hz]; exact a3 x hx z (by simp)
     ·rw [if_neg hz,List.pairwise_append];refine ⟨h1,List.pairwise_singleton _ _,fun x hx y hy=>?_⟩;have hy':y=p:=by simpa using hy
      subst hy';have hzp:dataLt (enc z.1) (enc y.1)=true:=z6g (fun q=>hz q.symm) (h2 z (by simp) y (mcs ..));rcases Qw hx with hx | hx
      ·exact z31 (a3 x hx z (by simp)) hzp
      ·have hx':x=z:=by simpa using hx
       subst hx'; exact hzp
   ·intro a ha b hb;have hpb:=h31 b hb;rcases List.eq_nil_or_concat acc with h | ⟨c,z,h⟩
    ·subst h;rw [z0t] at ha;have:a=p:=by simpa using ha
     subst this; exact hpb
    ·subst h;rw [List.concat_eq_append] at ha h2;rw [z0d] at ha;by_cases hz:z.1=p.1
     ·rw [if_pos hz] at ha;rcases Qw ha with ha | ha
      ·exact h2 a (mal _ ha) b (mcm _ hb)
      ·have:a=(p.1,z.2+p.2):=by simpa using ha
       subst this; exact hpb
     ·rw [if_neg hz] at ha;rcases Qw ha with ha | ha
      ·exact h2 a ha b (mcm _ hb)
      ·have:a=p:=by simpa using ha
       subst this; exact hpb
 exact key bs [] List.Pairwise.nil (by simp) h
theorem zca (bs:List (γ × Int)):(srtE (z0p enc) bs).Pairwise (fun a b=>dataLt (enc b.1) (enc a.1)=false):=by
 refine (zdq (enc:=z0p enc) bs).imp fun {a b} hab=>?_;rw [zc0] at hab;by_cases h:b.1=a.1
 ·rw [h]; exact z17 _
 ·rw [if_neg h] at hab; exact hab
def tdy (enc:γ->PyData) (bs:List (γ × Int)):List (γ × Int):=jn (srtE (z0p enc) bs)
theorem z8i (bs:List (γ × Int)):(tdy enc bs).Pairwise (fun p q=>dataLt (enc p.1) (enc q.1)=true):=zdf (zca bs)
theorem z1w (bs:List (γ × Int)) (x:γ):sumE (tdy enc bs) x=sumE bs x:=by
 unfold tdy;rw [zdo,zb2 (z18 bs)]
theorem z1m (bs:List (γ × Int)):∀ p ∈ tdy enc bs,∃ q ∈ bs,q.1=p.1:=fun p hp=>by
 obtain ⟨q,hq,e⟩:=z1h _ p hp;exact ⟨q,(z18 bs).mem_iff.mp hq,e⟩
def allE:List (γ × Int)->Int
 | []=>0
 | p::r=>p.2+allE r
theorem z14:∀ as bs:List (γ × Int),allE (as++bs)=allE as+allE bs
 | [],bs=>by simp [allE]
 | p::r,bs=>by show _+allE (r++bs)=_; rw [z14 r bs,allE]; omega
theorem zao {as bs:List (γ × Int)} (h:as.Perm bs):allE as=allE bs:=by
 induction h with
 | nil=>rfl
 | cons y _ ih=>simp only [allE]; omega
 | swap y z l=>simp only [allE]; omega
 | trans _ _ h1 h2=>omega
theorem zgi (bs:List (γ × Int)):allE (jn bs)=allE bs:=by
 have key:∀ (bs acc:List (γ × Int)),allE (bs.foldl z08 acc)=allE acc+allE bs:=by
  intro bs
  induction bs with
  | nil=>intro acc; simp [allE]
  | cons p r ih =>
   intro acc;show allE (r.foldl z08 (z08 acc p))=_;rw [ih];have e:allE (z08 acc p)=allE acc+p.2:=by
    rcases List.eq_nil_or_concat acc with h | ⟨a,z,h⟩
    ·subst h; rw [z0t]; simp [allE]
    ·subst h;rw [List.concat_eq_append,z0d]
     split
     ·rw [z14,z14]; simp only [allE]; omega
     ·rw [z14]; simp only [allE]; omega
   rw [e,allE]; omega
 have:=key bs [];simpa [jn,allE] using this
theorem zgg {bs:List (γ × Int)} (h:∀ p ∈ bs,1<=p.2):∀ p ∈ jn bs,1<=p.2:=by
 have key:∀ (bs acc:List (γ × Int)),(∀ p ∈ acc,1<=p.2)->(∀ p ∈ bs,1<=p.2)->∀ p ∈ bs.foldl z08 acc,1<=p.2:=by
  intro bs
  induction bs with
  | nil=>intro acc h _; exact h
  | cons p r ih =>
   intro acc h1 h2;refine ih (z08 acc p) (fun q hq=>?_) fun q hq=>h2 q (mcm _ hq);have hp:=h2 p (mcs ..);rcases List.eq_nil_or_concat acc with h | ⟨a,z,h⟩
   ·subst h;rw [z0t] at hq;have:q=p:=by simpa using hq
    subst this; exact hp
   ·subst h;rw [List.concat_eq_append] at h1 hq;rw [z0d] at hq;have hz:=h1 z (by simp);by_cases e:z.1=p.1
    ·rw [if_pos e] at hq;rcases Qw hq with hq | hq
     ·exact h1 q (mal _ hq)
     ·have:q=(p.1,z.2+p.2):=by simpa using hq
      subst this; show 1<=z.2+p.2; omega
    ·rw [if_neg e] at hq;rcases Qw hq with hq | hq
     ·exact h1 q hq
     ·have:q=p:=by simpa using hq
      subst this; exact hp
 exact key bs [] (by simp) h
theorem zft {bs:List (γ × Int)} (h:∀ p ∈ bs,1<=p.2):∀ p ∈ bs,p.2<=allE bs:=by
 induction bs with
 | nil=>intro p hp; cases hp
 | cons a r ih =>
  intro p hp;have hr:0<=allE r:=by
   clear ih hp;have:∀ p ∈ r,1<=p.2:=fun p hp=>h p (mcm _ hp);clear h
   induction r with
   | nil=>exact Int.le_refl _
   | cons b r ih2 =>
    have h1:=this b (mcs ..);have h2:=ih2 fun p hp=>this p (mcm _ hp);show 0<=b.2+allE r; omega
  have ha:=h a (mcs ..);rcases Qv hp with hp | hp
  ·subst hp; show p.2<=p.2+allE r; omega
  ·have:=ih (fun p hp=>h p (mcm _ hp)) p hp;show p.2<=a.2+allE r; omega
theorem z9l {bs:List (γ × Int)} (h:∀ p ∈ bs,1<=p.2):∀ p ∈ tdy enc bs,1<=p.2/\p.2<=allE bs:=fun p hp=>by
 have h0:∀ p ∈ srtE (z0p enc) bs,1<=p.2:=fun p hp=>h p ((z18 bs).mem_iff.mp hp);have h1:=zgg h0;refine ⟨h1 p hp,?_⟩;have h2:=zft h1 p hp;rw [zgi,zao (z18 bs)] at h2;exact h2
end
inductive Gr where
 | nil
 | cons (k:Str) (g:Gr) (m:Int) (r:Gr)
 deriving DecidableEq
abbrev Tr:=Str × Gr
def z03 (k:Str):Prop:=1<=k.cps.toList.length/\k.cps.toList.length<=8/\∀ c ∈ k.cps.toList,97<=c/\c<=122
namespace Gr
def encs:Gr->List PyData
 | .nil=>[]
 | .cons k g m r=>.tuple [.tuple [.str k,.tuple g.encs],.int m]::r.encs
def enc (g:Gr):PyData:=.tuple g.encs
def tEnc (t:Tr):PyData:=.tuple [.str t.1,t.2.enc]
abbrev pEnc:Tr × Int->PyData:=z0p tEnc
def ps:Gr->List (Tr × Int)
 | .nil=>[]
 | .cons k g m r=>((k,g),m)::r.ps
def ofPs:List (Tr × Int)->Gr
 | []=>.nil
 | p::r=>.cons p.1.1 p.1.2 p.2 (ofPs r)
theorem ofPs_ps:∀ g:Gr,ofPs g.ps=g
 | .nil=>rfl
 | .cons k g m r=>by show Gr.cons k g m (ofPs r.ps)=_; rw [ofPs_ps r]
theorem ps_ofPs:∀ bs:List (Tr × Int),(ofPs bs).ps=bs
 | []=>rfl
 | p::r=>by show ((p.1.1,p.1.2),p.2)::(ofPs r).ps=_; rw [ps_ofPs r]
theorem encs_ps:∀ g:Gr,g.encs=g.ps.map pEnc
 | .nil=>rfl
 | .cons k g m r=>by show _::r.encs=_::r.ps.map pEnc; rw [encs_ps r]; rfl
def parts:Gr->Nat
 | .nil=>0
 | .cons _ g _ r=>1+g.parts+r.parts
def deep:Gr->Nat
 | .nil=>0
 | .cons _ g _ r=>max (1+g.deep) r.deep
def tot:List (Tr × Int)->Nat
 | []=>0
 | p::r=>1+p.1.2.parts+tot r
theorem parts_ofPs:∀ bs:List (Tr × Int),(ofPs bs).parts=tot bs
 | []=>rfl
 | p::r=>by show 1+p.1.2.parts+(ofPs r).parts=1+p.1.2.parts+tot r; rw [parts_ofPs r]
theorem tot_ps (g:Gr):tot g.ps=g.parts:=by rw [<- parts_ofPs,ofPs_ps]
theorem tot_append:∀ bs cs:List (Tr × Int),tot (bs++cs)=tot bs+tot cs
 | [],cs=>by simp [tot]
 | p::r,cs=>by show 1+p.1.2.parts+tot (r++cs)=_; rw [tot_append r cs,tot]; omega
theorem tot_perm {bs cs:List (Tr × Int)} (h:bs.Perm cs):tot bs=tot cs:=by
 induction h with
 | nil=>rfl
 | cons x _ ih=>simp only [tot]; omega
 | swap x y l=>simp only [tot]; omega
 | trans _ _ h1 h2=>omega
theorem len_tot:∀ bs:List (Tr × Int),bs.length<=tot bs
 | []=>Yc _
 | p::r=>by have:=len_tot r; show r.length+1<=1+p.1.2.parts+tot r; omega
theorem tot_jn (bs:List (Tr × Int)):tot (jn bs)<=tot bs:=by
 have key:∀ (bs acc:List (Tr × Int)),tot (bs.foldl z08 acc)<=tot acc+tot bs:=by
  intro bs
  induction bs with
  | nil=>intro acc; simp [tot]
  | cons x r ih =>
   intro acc;have h1:=ih (z08 acc x);have h2:tot (z08 acc x)<=tot acc+(1+x.1.2.parts):=by
    rcases List.eq_nil_or_concat acc with h | ⟨a,z,h⟩
    ·subst h; simp [z0t,tot]
    ·subst h;rw [List.concat_eq_append,z0d];by_cases hz:z.1=x.1
     ·rw [if_pos hz,tot_append,tot_append]; simp only [tot]; rw [hz]; omega
     ·rw [if_neg hz,tot_append,tot_append]; simp only [tot]; omega
   show tot (r.foldl z08 (z08 acc x))<=tot acc+(1+x.1.2.parts+tot r);omega
 have:=key bs [];simpa [jn,tot] using this
theorem mem_deep:∀ (g:Gr) (p:Tr × Int),p ∈ g.ps->p.1.2.deep < g.deep
 | .nil,p,h=>by cases h
 | .cons k g m r,p,h=>by
  rcases Qv h with h | h
  ·subst h; show g.deep < max (1+g.deep) r.deep; omega
  ·have:=mem_deep r p h; show _ < max (1+g.deep) r.deep; omega
theorem mem_parts:∀ (g:Gr) (p:Tr × Int),p ∈ g.ps->p.1.2.parts < g.parts
 | .nil,p,h=>by cases h
 | .cons k g m r,p,h=>by
  rcases Qv h with h | h
  ·subst h; show g.parts < 1+g.parts+r.parts; omega
  ·have:=mem_parts r p h; show _ < 1+g.parts+r.parts; omega
theorem deep_le {n:Nat}:∀ {g:Gr},(∀ p ∈ g.ps,p.1.2.deep < n)->g.deep<=n
 | .nil,_=>Nat.zero_le _
 | .cons k g m r,h=>by
  have h1:=h ((k,g),m) (mcs ..);have h2:=deep_le (g:=r) fun p hp=>h p (mcm _ hp);show max (1+g.deep) r.deep<=n;have:g.deep < n:=h1;omega
theorem len_parts (g:Gr):g.ps.length<=g.parts:=by have:=len_tot g.ps; rw [tot_ps] at this; exact this
theorem alikes:∀ g h:Gr,alikeAll g.encs h.encs=true
 | .nil,_=>by simp [encs,alikeAll]
 | .cons _ _ _ _,.nil=>by simp [encs,alikeAll]
 | .cons k g m r,.cons k' g' m' r'=>by
  have h1:=alikes g g';have h2:=alikes r r';simp [encs,alikeAll,alike,h1,h2]
theorem alike_enc (g h:Gr):alike g.enc h.enc=true:=by
 show alike (.tuple g.encs) (.tuple h.encs)=true;rw [alike]; exact alikes g h
theorem sb (a b:Str):(a == b)=decide (a=b):=by by_cases h:a=b <;> simp [h]
theorem eqvs:∀ g h:Gr,PyData.eqvAll g.encs h.encs=decide (g=h)
 | .nil,.nil=>by simp [encs,PyData.eqvAll]
 | .nil,.cons _ _ _ _=>by simp [encs,PyData.eqvAll]
 | .cons _ _ _ _,.nil=>by simp [encs,PyData.eqvAll]
 | .cons k g m r,.cons k' g' m' r'=>by
  have h1:=eqvs g g';have h2:=eqvs r r';simp [encs,PyData.eqvAll,PyData.eqv,h1,h2,Bool.and_assoc,ib,sb]
theorem eqv_enc (g h:Gr):PyData.eqv g.enc h.enc=decide (g=h):=by
 rw [enc,enc,PyData.eqv]; exact eqvs g h
instance:Orderly tEnc where
 al a b:=by simp [tEnc,alike,alikeAll,alike_enc]
 eq a b:=by
  simp only [tEnc,PyData.eqv,PyData.eqvAll,eqv_enc,Bool.and_true,sb];by_cases h:a=b
  ·subst h; simp
  ·rw [Qz h,Bool.and_eq_false_iff];by_cases h1:a.1=b.1
   ·exact .inr (Qz fun h2=>h (Prod.ext h1 h2))
   ·exact .inl (Qz h1)
theorem noLists_encs:∀ g:Gr,z0c g.encs=true
 | .nil=>by simp [encs,z0c]
 | .cons k g m r=>by simp [encs,z0c,z09,noLists_encs g,noLists_encs r]
theorem noList_enc (g:Gr):z09 g.enc=true:=by simp [enc,z09,noLists_encs g]
theorem noList_tEnc (t:Tr):z09 (tEnc t)=true:=by simp [tEnc,z09,z0c,noList_enc]
theorem noList_pEnc (p:Tr × Int):z09 (pEnc p)=true:=by simp [pEnc,z0p,z09,z0c,noList_tEnc]
theorem encs_depth:∀ g:Gr,PyData.depthAll g.encs<=3*g.deep
 | .nil=>by simp [encs,PyData.depthAll,deep]
 | .cons k g m r=>by
  have h1:=encs_depth g;have h2:=encs_depth r;simp only [encs,PyData.depthAll,PyData.depth,deep];omega
theorem enc_depth (g:Gr):g.enc.depth<=3*g.deep+1:=by
 have:=encs_depth g;simp only [enc,PyData.depth];omega
theorem tEnc_depth (t:Tr):(tEnc t).depth<=3*t.2.deep+2:=by
 have:=enc_depth t.2;simp only [tEnc,PyData.depth,PyData.depthAll]; omega
theorem pEnc_depth (p:Tr × Int):(pEnc p).depth<=3*p.1.2.deep+3:=by
 have:=tEnc_depth p.1;simp only [pEnc,z0p,PyData.depth,PyData.depthAll]; omega
def Ok (C:Int):Gr->Prop
 | .nil=>True
 | .cons k g m r=>z03 k/\g.Ok C/\1<=m/\m < C/\r.Ok C/\∀ p ∈ r.ps,dataLt (tEnc (k,g)) (tEnc p.1)=true
theorem Ok.mono {B C:Int} (h:B<=C):∀ {g:Gr},g.Ok B->g.Ok C
 | .nil,_=>trivial
 | .cons k g m r,⟨h0,h1,h2,h3,h4,h5⟩=>⟨h0,Ok.mono h h1,h2,by omega,Ok.mono h h4,h5⟩
theorem ok_ps {C:Int}:∀ {bs:List (Tr × Int)},(ofPs bs).Ok C ↔ (∀ p ∈ bs,z03 p.1.1/\p.1.2.Ok C/\1<=p.2/\p.2 < C)/\bs.Pairwise (fun p q=>dataLt (tEnc p.1) (tEnc q.1)=true)
 | []=>by simp [ofPs,Ok]
 | x::r=>by
  have ih:=ok_ps (C:=C) (bs:=r);show (z03 x.1.1/\x.1.2.Ok C/\1<=x.2/\x.2 < C/\(ofPs r).Ok C/\∀ p ∈ (ofPs r).ps,dataLt (tEnc x.1) (tEnc p.1)=true) ↔ _;rw [ps_ofPs,List.pairwise_cons,ih];constructor
  ·rintro ⟨h0,h1,h2,h3,⟨h4,h5⟩,h6⟩
   refine ⟨fun p hp=>?_,h6,h5⟩;rcases Qv hp with hp | hp
   ·subst hp; exact ⟨h0,h1,h2,h3⟩
   ·exact h4 p hp
  ·rintro ⟨h1,h2,h3⟩
   have h4:=h1 x (mcs ..);exact ⟨h4.1,h4.2.1,h4.2.2.1,h4.2.2.2,⟨fun p hp=>h1 p (mcm _ hp),h3⟩,h2⟩
theorem ok_iff {C:Int} {g:Gr}:g.Ok C ↔ (∀ p ∈ g.ps,z03 p.1.1/\p.1.2.Ok C/\1<=p.2/\p.2 < C)/\g.ps.Pairwise (fun p q=>dataLt (tEnc p.1) (tEnc q.1)=true):=by
 have:=ok_ps (C:=C) (bs:=g.ps);rw [ofPs_ps] at this;exact this
theorem strOk_name {k:Str} (h:z03 k):PySem.PyData.strOk k=true:=by
 show k.cps.all (· < 0x110000)=true;rw [Array.all_eq_true'];intro c hc;have:=h.2.2 c (by simpa using hc);simp; omega
theorem lays {C:Int}:∀ {g:Gr},g.Ok C->PyData.canLayAll0 g.encs=true
 | .nil,_=>by simp [encs,PyData.canLayAll0]
 | .cons k g m r,⟨h0,h1,_,_,h4,_⟩=>by
  have e1:=lays h1;have e2:=lays h4;simp [encs,PyData.canLayAll0,PyData.canLay0,e1,e2,strOk_name h0]
theorem shaped_enc {C:Int} {g:Gr} (h:g.Ok C) (hd:g.deep<=20):SeqAt.shaped g.enc=true:=by
 have:=g.enc_depth;unfold SeqAt.shaped;rw [show g.enc.canLay0=true by rw [enc,PyData.canLay0]; exact lays h];simp; omega
theorem shaped_tEnc {C:Int} {t:Tr} (h0:z03 t.1) (h:t.2.Ok C) (hd:t.2.deep<=20):SeqAt.shaped (tEnc t)=true:=by
 have:=tEnc_depth t;unfold SeqAt.shaped;rw [show (tEnc t).canLay0=true by simp [tEnc,PyData.canLay0,PyData.canLayAll0,strOk_name h0,enc,lays h]];simp; omega
theorem pEnc_all (bs:List (Tr × Int)):AllAlike (bs.map pEnc):=AllAlike.of fun a b=>Orderly.al (enc:=pEnc) a b
theorem pEnc_sortable (bs:List (Tr × Int)):Sortable (bs.map pEnc):=Sortable.tuples fun b=>⟨_,_,rfl⟩
def tidy (bs:List (Tr × Int)):Gr:=ofPs (tdy tEnc bs)
theorem tidy_parts (bs:List (Tr × Int)):(tidy bs).parts<=tot bs:=by
 unfold tidy;rw [parts_ofPs];have h1:=tot_jn (srtE (z0p tEnc) bs);rw [tot_perm (z18 bs)] at h1;exact h1
theorem tidy_deep {n:Nat} {bs:List (Tr × Int)} (h:∀ p ∈ bs,p.1.2.deep < n):(tidy bs).deep<=n:=by
 refine deep_le fun p hp=>?_;unfold tidy at hp;rw [ps_ofPs] at hp;obtain ⟨q,hq,e⟩:=z1m bs p hp;rw [<- e]; exact h q hq
theorem tidy_ok {C D:Int} {bs:List (Tr × Int)} (h:∀ p ∈ bs,z03 p.1.1/\p.1.2.Ok C/\1<=p.2) (hD:allE bs < D) (hCD:C<=D):(tidy bs).Ok D:=by
 unfold tidy;rw [ok_ps];refine ⟨fun p hp=>?_,z8i bs⟩;obtain ⟨q,hq,e⟩:=z1m bs p hp;have hq2:=h q hq;obtain ⟨h1,h2⟩:=z9l (enc:=tEnc) (fun p hp=>(h p hp).2.2) p hp;rw [<- e];exact ⟨hq2.1,hq2.2.1.mono hCD,h1,by omega⟩
end Gr
def GA (K:Qn) (H:Hp) (v:V) (g:Gr):Prop:=Dp K H v g.enc
section
variable {K:Qn} {ps:List Addr} {H H':Hp} {v:V} {g:Gr}
theorem GA.sb (h:GA K H v g) (e:SB ps H H'):GA K H' v g:=z0a e _ _ g.noList_enc h
theorem z0u (h:GA K H v g):∃ a xs,v=.ref a/\SqT K H a xs/\Bears K H Gr.pEnc xs g.ps:=by
 have h':Dp K H v (.tuple g.encs):=h;cases h' with
 | tup hs ha =>
  rw [Gr.encs_ps] at ha;exact ⟨_,_,rfl,hs,Bears.of ha⟩
theorem zbz {a:Addr} {xs:List V} {bs:List (Tr × Int)} (h:SqT K H a xs) (hb:Bears K H Gr.pEnc xs bs):GA K H (.ref a) (Gr.ofPs bs):=by
 refine Dp.tup h ?_;rw [Gr.encs_ps,Gr.ps_ofPs];exact hb.dp
theorem z5i {p:Addr} (h:SqT K H p []):GA K H (.ref p) .nil:=Dp.tup h .nil
theorem z4r {t:Tr} (h:Dp K H v (Gr.tEnc t)):∃ a u,v=.ref a/\SqT K H a [.str t.1,u]/\GA K H u t.2:=by
 cases h with
 | tup hs ha =>
  cases ha with
  | cons h1 h2 =>
   cases h2 with
   | cons h3 h4 =>
    cases h4;cases h1;exact ⟨_,_,rfl,hs,h3⟩
theorem z0h {p:Tr × Int} (h:Dp K H v (Gr.pEnc p)):∃ a b u,v=.ref a/\SqT K H a [.ref b,.int p.2]/\SqT K H b [.str p.1.1,u]/\GA K H u p.1.2/\Dp K H (.ref b) (Gr.tEnc p.1):=by
 cases h with
 | tup hs ha =>
  cases ha with
  | cons h1 h2 =>
   cases h2 with
   | cons h3 h4 =>
    cases h4;cases h3;obtain ⟨b,u,rfl,hb,hg⟩:=z4r h1;exact ⟨_,b,u,rfl,hs,hb,hg,h1⟩
end
def z2o (K:Qn):Sp:=fun vs H Q _=>∃ (a:Addr) (xs:List V) (bs:List (Tr × Int)),vs=[.ref a]/\(SqL K H a xs\/SqT K H a xs)/\Bears K H Gr.pEnc xs bs/\bs.length<=1000/\(∃ C,∀ p ∈ bs,z03 p.1.1/\p.1.2.Ok C/\p.1.2.deep<=18) /\
 ∀ (v:V) (H':Hp),SB [] H H'->GA K H' v (Gr.tidy bs)->Q v H'
def Ltr (z:Str) (n:Nat):Prop:=z.cps.toList.length=n/\∀ c ∈ z.cps.toList,97<=c/\c<=122
theorem Ltr.name {z:Str} {n:Nat} (h:Ltr z n) (h1:1<=n) (h8:n<=8):z03 z:=⟨by have:=h.1; omega,by have:=h.1; omega,h.2⟩
theorem Ltr.len {z:Str} {n:Nat} (h:Ltr z n):z.length=n:=by have:=h.1; simpa [Str.length] using this
theorem Ltr.one {c:Nat} (h:97<=c/\c<=122):Ltr ⟨#[c]⟩ 1:=⟨rfl,fun x hx=>by simp at hx; subst hx; exact h⟩
theorem Ltr.append {a b:Str} {n m:Nat} (ha:Ltr a n) (hb:Ltr b m):Ltr (a++b) (n+m):=by
 have e:(a++b).cps.toList=a.cps.toList++b.cps.toList:=by show (a.cps++b.cps).toList=_; simp
 unfold Ltr;rw [e,Yf,ha.1,hb.1];refine ⟨rfl,fun c hc=>?_⟩;rcases Qw hc with hc | hc
 ·exact ha.2 c hc
 ·exact hb.2 c hc
theorem Ltr.take {z:Str} {n:Nat} (h:Ltr z n) (k:Nat):Ltr (cutS z none (some (k:Int))) (min k n):=by
 have hl:=h.len;have e:(cutS z none (some (k:Int))).cps.toList=z.cps.toList.take (min k n):=by
  unfold cutS;rw [HT.sIx_none,HT.sIx_nat,hl];simp
 unfold Ltr;rw [e,List.length_take,h.1];exact ⟨by omega,fun c hc=>h.2 c (List.mem_of_mem_take hc)⟩
theorem z7j:∀ (cs:List Nat) (acc:Array Nat),((cs.map fun c=>(⟨#[c]⟩:Str)).foldl (fun acc p=>acc++(Str.ofString "").cps++p.cps) acc).toList=acc.toList++cs
 | [],acc=>by simp
 | c::cs,acc=>by
  have e0:(Str.ofString "").cps=#[]:=by decide +kernel
  rw [List.map_cons,List.foldl_cons,z7j cs];simp [e0]
theorem zb4 (cs:List Nat) (h:∀ c ∈ cs,97<=c/\c<=122):Ltr (Txt.join (Str.ofString "") (cs.map fun c=>⟨#[c]⟩)) cs.length:=by
 have e:(Txt.join (Str.ofString "") (cs.map fun c=>(⟨#[c]⟩:Str))).cps.toList=cs:=by
  show (Builtin.Str.glued (Str.ofString "") (cs.map fun c=>(⟨#[c]⟩:Str))).cps.toList=cs;unfold Builtin.Str.glued;cases cs with
  | nil=>rfl
  | cons c r =>
   show ((r.map fun c=>(⟨#[c]⟩:Str)).foldl (fun acc p=>acc++(Str.ofString "").cps++p.cps) #[c]).toList=c::r;rw [z7j]
   rfl
 unfold Ltr;rw [e];exact ⟨rfl,h⟩
abbrev abc:Str:=Str.ofString "abcdefghijklmnopqrstuvwxyz"
theorem zfb:∀ r:Nat,r < 26->∃ c,abc.cps.toList[r]?=some c/\97<=c/\c<=122:=by
 have:∀ r:Fin 26,∃ c:Fin 200,abc.cps.toList[r.val]?=some c.val/\97<=c.val/\c.val<=122:=by decide +kernel
 intro r hr;obtain ⟨c,h⟩:=this ⟨r,hr⟩;exact ⟨c.val,h⟩
theorem z9a:abc.length<=sizeLine:=by decide +kernel
theorem z32 {xs:List Nat} {j:Nat} {c:Nat} (h:xs[j]?=some c):atI xs (j:Int)=some c:=by
 have hj:j < xs.length:=(List.getElem?_eq_some_iff.mp h).1;unfold atI ixN;rw [if_pos (by omega),if_pos (by omega)];simpa using h
def zcd (K:Qn) {β:Type} (enc:β->PyData) (vs:List V) (H:Hp) (Q:VK):Prop:=∃ (a:Addr) (xs:List V) (bs:List β),vs=[V.ref a]/\(SqL K H a xs\/SqT K H a xs)/\Bears K H enc xs bs/\AllAlike (bs.map enc)/\Sortable (bs.map enc)/\bs.length<=10000000/\(∀ b ∈ bs,(enc b).depth<=100) /\
 ∀ (p:Addr) (ys:List V),H p=none->Bears K H enc ys (bs.mergeSort (dataLe false enc))->Q (.ref p) (upd H p (.lst ys))
theorem z9v {X:Cx} {β:Type} (enc:β->PyData) (hu:X.A.units+110 < cLine):CallR X (.builtin "sorted") (zcd X.K enc):=by
 intro pins s σ H vs us Q I r h;obtain ⟨a,xs,bs,h1,h2,h3⟩:=h;rcases h2 with h2 | h2
 ·exact z9t enc hu pins s σ H vs us Q I r ⟨a,xs,bs,h1,h2,h3⟩
 ·exact za3 enc hu pins s σ H vs us Q I r ⟨a,xs,bs,h1,h2,h3⟩
theorem Gr.shaped_rows {bs:List (Tr × Int)} (h:∃ C,∀ b ∈ bs,z03 b.1.1/\b.1.2.Ok C/\b.1.2.deep<=18):SeqAt.shaped (.list (bs.map Gr.pEnc))=true:=by
 obtain ⟨C,h⟩:=h;have h1:PyData.canLayAll0 (bs.map Gr.pEnc)=true:=by
  induction bs with
  | nil=>simp [PyData.canLayAll0]
  | cons b r ih =>
   have e:=ih fun c hc=>h c (mcm _ hc);obtain ⟨n,o,_⟩:=h b (mcs ..);rw [List.map_cons,PyData.canLayAll0,e];simp [Gr.pEnc,z0p,Gr.tEnc,PyData.canLay0,PyData.canLayAll0,Gr.enc,Gr.lays o,Gr.strOk_name n]
 have h2:PyData.depthAll (bs.map Gr.pEnc)<=57:=by
  clear h1
  induction bs with
  | nil=>simp [PyData.depthAll]
  | cons b r ih =>
   have e1:=ih (fun c hc=>h c (mcm _ hc));have e2:=(h b (mcs ..)).2.2;have e3:=Gr.pEnc_depth b;rw [List.map_cons,PyData.depthAll];omega
 have h3:(PyData.list (bs.map Gr.pEnc)).depth=PyData.depthAll (bs.map Gr.pEnc)+1:=by simp [PyData.depth]
 unfold SeqAt.shaped;rw [PyData.canLay0,h1,Bool.true_and];exact Ya (by omega)
namespace Gr
def within:Gr->List (Tr × Int)
 | .nil=>[]
 | .cons k g m r=>((k,g),m)::(g.within++r.within)
theorem within_ps:∀ g:Gr,g.within=g.ps.flatMap fun p=>p::p.1.2.within
 | .nil=>rfl
 | .cons k g m r=>by show ((k,g),m)::(g.within++r.within)=_; rw [within_ps r]; rfl
theorem within_length:∀ g:Gr,g.within.length=g.parts
 | .nil=>rfl
 | .cons k g m r=>by show (g.within++r.within).length+1=1+g.parts+r.parts; rw [Yf,within_length g,within_length r]; omega
theorem natAbs_lt {x:Int} {n:Nat} (h0:0<=x) (h:x < 2 ^ n):x.natAbs < 2 ^ n:=by
 have h2:((x.natAbs:Nat):Int)=x:=Int.natAbs_of_nonneg h0;have h3:((2 ^ n:Nat):Int)=(2:Int) ^ n:=by rw [Int.natCast_pow]; rfl
 exact Int.ofNat_lt.mp (by rw [h2,h3]; exact h)
end Gr
def z1c (K:Qn) (n:Nat):Sp:=fun vs H Q _=>∃ (v:V) (g:Gr),vs=[v]/\GA K H v g/\g.deep < n/\g.parts<=200000/\∀ (D:Addr) (us:List V) (H':Hp),SB [] H H'->H D=none->H' D=some (.lst us)->Bears K H' Gr.pEnc us g.within->Q (.ref D) H'
section
variable {P:Program} {w:World} {K:Qn} {mg:Str->Option Value} {base:Heap} {f:Addr} {fd:FuncData}
theorem zbx {ps:List Str} {k:Nat}:FnOk P w K mg base CX0 k f fd ps (z1c K 0):=z0v fun vs H Q E ⟨v,l,_,_,h,_⟩=>by omega
end
namespace Gr
def tgt (g k:Gr):Gr:=tidy (g.ps++k.ps)
theorem tgt_ps (g k:Gr):(tgt g k).ps=tdy tEnc (g.ps++k.ps):=ps_ofPs _
theorem tgt_parts (g k:Gr):(tgt g k).parts<=g.parts+k.parts:=by
 have:=tidy_parts (g.ps++k.ps);rw [tot_append,tot_ps,tot_ps] at this;exact this
theorem tgt_deep {n:Nat} {g k:Gr} (hg:g.deep<=n) (hk:k.deep<=n):(tgt g k).deep<=n:=tidy_deep fun p hp=>by
 rcases Qw hp with h | h
 ·have:=g.mem_deep p h; omega
 ·have:=k.mem_deep p h; omega
abbrev S (g:Gr) (t:Tr):Int:=sumE g.ps t
theorem S_tgt (g k:Gr) (t:Tr):S (tgt g k) t=S g t+S k t:=by
 show sumE (tgt g k).ps t=_;rw [tgt_ps,z1w,z0g]
theorem S_zero {bs:List (Tr × Int)} {t:Tr} (h:∀ p ∈ bs,p.1 ≠ t):sumE bs t=0:=by
 induction bs with
 | nil=>rfl
 | cons p r ih =>
  show (if p.1=t then p.2 else 0)+sumE r t=0;rw [if_neg (h p (mcs ..)),ih fun q hq=>h q (mcm _ hq)]; rfl
theorem ext_ps:∀ {as bs:List (Tr × Int)},as.Pairwise (fun p q=>dataLt (tEnc p.1) (tEnc q.1)=true)->bs.Pairwise (fun p q=>dataLt (tEnc p.1) (tEnc q.1)=true)->(∀ p ∈ as,1<=p.2)->(∀ p ∈ bs,1<=p.2)->(∀ t,sumE as t=sumE bs t)->as=bs
 | [],[],_,_,_,_,_=>rfl
 | [],b::bs,_,h2,_,p2,h=>by
  have:=h b.1;have hz:sumE bs b.1=0:=S_zero fun q hq z=>by have:=(List.pairwise_cons.mp h2).1 q hq; rw [z,z17] at this; cases this
  have e:sumE (b::bs) b.1=b.2+sumE bs b.1:=by show (if b.1=b.1 then b.2 else 0)+_=_; rw [if_pos rfl]
  rw [e,hz] at this;have:=p2 b (mcs ..);have z:sumE ([]:List (Tr × Int)) b.1=0:=rfl;omega
 | a::as,[],h1,_,p1,_,h=>by
  have:=h a.1;have hz:sumE as a.1=0:=S_zero fun q hq z=>by have:=(List.pairwise_cons.mp h1).1 q hq; rw [z,z17] at this; cases this
  have e:sumE (a::as) a.1=a.2+sumE as a.1:=by show (if a.1=a.1 then a.2 else 0)+_=_; rw [if_pos rfl]
  rw [e,hz] at this;have:=p1 a (mcs ..);have z:sumE ([]:List (Tr × Int)) a.1=0:=rfl;omega
 | a::as,b::bs,h1,h2,p1,p2,h=>by
  obtain ⟨a1,a2⟩:=List.pairwise_cons.mp h1;obtain ⟨b1,b2⟩:=List.pairwise_cons.mp h2;have pa:=p1 a (mcs ..);have pb:=p2 b (mcs ..);have za:∀ t,(t=a.1\/dataLt (tEnc t) (tEnc a.1)=true)->sumE as t=0:=fun t ht=>S_zero fun q hq z=>by
   have q1:=a1 q hq;rw [z] at q1;rcases ht with ht | ht
   ·rw [ht,z17] at q1; cases q1
   ·rw [z2s ht] at q1; cases q1
  have zb:∀ t,(t=b.1\/dataLt (tEnc t) (tEnc b.1)=true)->sumE bs t=0:=fun t ht=>S_zero fun q hq z=>by
   have q1:=b1 q hq;rw [z] at q1;rcases ht with ht | ht
   ·rw [ht,z17] at q1; cases q1
   ·rw [z2s ht] at q1; cases q1
  have ea:∀ t,sumE (a::as) t=(if a.1=t then a.2 else 0)+sumE as t:=fun t=>rfl;have eb:∀ t,sumE (b::bs) t=(if b.1=t then b.2 else 0)+sumE bs t:=fun t=>rfl;have hab:a.1=b.1:=by
   by_cases e:a.1=b.1
   ·exact e
   ·exfalso
    cases hlt:dataLt (tEnc a.1) (tEnc b.1) with
    | true =>
     have:=h a.1;rw [ea,eb,if_pos rfl,if_neg (fun z=>e z.symm),za _ (.inl rfl),zb _ (.inr hlt)] at this;omega
    | false =>
     have hlt2:=z6g (enc:=tEnc) e hlt;have:=h b.1;rw [ea,eb,if_pos rfl,if_neg e,zb _ (.inl rfl),za _ (.inr hlt2)] at this;omega
  have hm:a.2=b.2:=by
   have:=h a.1;rw [ea,eb,if_pos rfl,if_pos hab.symm,za _ (.inl rfl),zb _ (.inl hab)] at this;omega
  have he:a=b:=Prod.ext hab hm;subst he;rw [ext_ps a2 b2 (fun p hp=>p1 p (mcm _ hp)) (fun p hp=>p2 p (mcm _ hp)) fun t=>by have:=h t; rw [ea,eb] at this; omega]
theorem ext {C D:Int} {g k:Gr} (hg:g.Ok C) (hk:k.Ok D) (h:∀ t,S g t=S k t):g=k:=by
 have h1:=ok_iff.mp hg;have h2:=ok_iff.mp hk;have:=ext_ps h1.2 h2.2 (fun p hp=>(h1.1 p hp).2.2.1) (fun p hp=>(h2.1 p hp).2.2.1) h;rw [<- ofPs_ps g,<- ofPs_ps k,this]
end Gr
theorem z7t {n:Nat} (h:n<=1000000):n < sizeLine:=by
 have:sizeLine=16777216:=sizeLine_eq;omega
open PySem.Sem in
theorem zbb {v:Value} {o:Obj} {Hh:Heap->Prop} (Bg:Begins v o Hh) :
  Meets (Builtin.«enumerate.__new__» ⟨[.type "enumerate",v],[]⟩) (fun _ R s=>Hh s.heap/\R (.ok (.ret (.ref (s.heap.push o).objs.size))) { s with heap:=(s.heap.push o).push { cls:=.type "enumerate",data:=.fields #[.none,.bool false,.ref s.heap.objs.size,rawInt 0,.none,.none] } }) :=
 .of_wp fun prog w A R s h=>by
  obtain ⟨hp,g,d,tk,os⟩:=s;obtain ⟨h1,h⟩:=h;have hsub:=sub_enumerate;have go:∀ {A2:Around} {E2:Value->Shared->Prop} {Q2:Value->Shared->Prop},Q2 (.ref hp.objs.size) ⟨hp.push o,g,d,tk,os⟩->wpAny (model prog w) A2 (pyIter v) Q2 E2 ⟨hp,g,d,tk,os⟩:=fun z=>Bg.iter prog w _ _ ⟨hp,g,d,tk,os⟩ _ h1 z
  wp_walk using go
  refine wpAny_stack_any fun stk=>wpAny_pure ?_
  split
  ·rename_i cl _ _ _ _ _;cases (cl == Value.type "enumerate") <;> (wp_walk using go; exact ⟨_,rfl,h⟩)
  ·wp_walk using go; exact ⟨_,rfl,h⟩
section
variable {prog:Program} {w:World} {A:Around} {E:Value->Shared->Prop} {s:Shared}
theorem z9o {t:Addr} {items:Array Value} {Q:Value->Shared->Prop} (hT:s.heap.IsTuple t items)
  (h:∀ h2,IsEnum h2 (s.heap.objs.size+1) s.heap.objs.size 0 .none->h2.IsTupleIter s.heap.objs.size t 0->(∀ b ob,s.heap.get? b=some ob->h2.get? b=some ob)->Q (.ref (s.heap.objs.size+1)) { s with heap:=h2 }):wpAny (model prog w) A (call (.type "enumerate") [.ref t]) Q E s:=by
 have Bg:=begins_tuple t items;refine callType_new F.called_enumerate (by decide) (F.typeCall_enumerate_1 _) (F.newCall_enumerate_1 _) (fun ob=>F.args_object_init_2 ob _) F.entry_enumerate_new (zbb Bg) ⟨hT,?_⟩;have hz:(s.heap.push { cls:=.type "tuple_iterator",data:=.fields #[.ref t,.int 0 0] }).objs.size=s.heap.objs.size+1:=Heap.size_push ..;show _/\_;rw [hz];have he:IsEnum ((s.heap.push { cls:=.type "tuple_iterator",data:=.fields #[.ref t,.int 0 0] }).push { cls:=.type "enumerate",data:=.fields #[.none,.bool false,.ref s.heap.objs.size,rawInt 0,.none,.none] }) (s.heap.objs.size+1) s.heap.objs.size 0 .none:=by
  have z:=Heap.get?_push_size (s.heap.push { cls:=.type "tuple_iterator",data:=.fields #[.ref t,.int 0 0] }) (o:={ cls:=.type "enumerate",data:=.fields #[.none,.bool false,.ref s.heap.objs.size,rawInt 0,.none,.none] }) rfl;rw [hz] at z;exact z
 exact ⟨⟨_,he,rfl⟩,h _ he ⟨_,Heap.get?_push_of_some _ (Heap.get?_push_size _ rfl),rfl,rfl⟩ fun b ob x=>Heap.get?_push_of_some _ (Heap.get?_push_of_some _ x)⟩
end
def IteT (K:Qn) (a:Addr):It :=
 ⟨fun i H=>∃ (xs:List V) (x:V),SqT K H a xs/\xs[i]?=some x,
  fun i H v H2=>∃ T x,v=.ref T/\H T=none/\H2=upd H T (.tup [.int (i:Nat),x])/\∀ xs,SqT K H a xs->xs[i]?=some x,
  fun i H=>∃ xs:List V,SqT K H a xs/\xs.length=i⟩
theorem z9p {P:Program} {w:World} {K:Qn} {elts:List Expr} {kk:Nat} {tpos:Pos} (a e it:Addr) (hei:e ≠ it) (hai:a ≠ it) (hea:e ≠ a) :
  Turn P w K (.Tuple elts kk tpos) (IteT K a) [e,it] e (fun i h=>(∃ old,IsEnum h e it ((i:Nat):Int) old)/\h.IsTupleIter it a i) where
 mem:=by simp
 obj:=fun i h st b hb=>by
  obtain ⟨⟨old,he⟩,o,ho,hc,hd⟩:=st;rcases (show b=e\/b=it by simpa using hb) with z | z
  ·rw [z]; exact ⟨_,he,fun v q=>nomatch q⟩
  ·rw [z]; exact ⟨o,ho,fun v q=>by rw [hd] at q; cases q⟩
 keep:=fun i h h2 st k=>let ⟨⟨old,he⟩,o,ho,r⟩:=st; ⟨⟨old,k e (by simp) _ he⟩,o,k it (by simp) o ho,r⟩
 item:=by
  intro X hP hw hK hc i pins s σ H E I hf st hg;subst hP hw hK;obtain ⟨⟨old,he⟩,hit⟩:=st;obtain ⟨xs,x,hq,hx⟩:=hg;obtain ⟨its,rv,p,hz⟩:=I.tuple hq;obtain ⟨u,hu,ru⟩:=rv.get hx;have hel:e < s.heap.objs.size:=Heap.lt_size he;have hil:it < s.heap.objs.size:=by obtain ⟨_,z,_⟩:=hit; exact Heap.lt_size z
  have Dr:=Draws.tuple (prog:=X.prog) (w:=X.w) (A:=X.A.in1) (I.ok.hd hc) it a hai its.toArray;have hlt:i < its.toArray.size:=by
   have:=(List.getElem?_eq_some_iff.mp hu).1;simpa using this
  refine wpAny_pyNext_enum_itemD Dr he ⟨hit,p⟩ hlt hei (by simp [hei,hea]) fun y h2 tk hy ho hst hT hsz hk=>?_;have hyu:y=u:=by
   have h3:its[i]?=some y:=by simpa using hy
   rw [hu] at h3; exact (Yd h3).symm
  subst hyu;refine ⟨_,rfl,wpAny_letOwnedTupleGo_enum (s:={ s with heap:=h2,toks:=tk+1 }) ho fun h3 he3 sb=>?_⟩;have hT2:h3.get? s.heap.objs.size=some { cls:=.type "tuple",data:=.seq #[.int i tk,y] }:=(sb.2 _ (Nat.ne_of_gt hel)).trans hT;have nw:ObjOk X.prog X.w (upd H s.heap.objs.size (.tup [.int (i:Nat),x])) h3 s.heap.objs.size (.tup [.int (i:Nat),x]):=⟨by show 2<=sizeLine; decide,[.int i tk,y],.cons ⟨_,rfl⟩ (.cons ru .nil),⟨_,hT2,rfl,_,rfl⟩⟩;have I1:Inv X pins σ (upd H s.heap.objs.size (.tup [.int (i:Nat),x])) { s with heap:=h3,toks:=tk+1 }:=I.turnedNew (ch:=[e,it]) (fun b ob hb z=>(sb.2 b (fun y=>hb (by simp [y]))).trans (hk b ob (fun y=>hb (by simp [y])) (fun y=>hb (by simp [y])) z)) hf (Yc _) nw;refine ⟨.ref s.heap.objs.size,_,I1,rfl,⟨_,x,rfl,I.hok.fresh (Yc _),rfl,fun ys hy=>by rw [I.tuple_inj hy hq]; exact hx⟩,⟨⟨y,?_⟩,?_⟩,fun b hb=>?_⟩
  ·rw [show ((i+1:Nat):Int)=(i:Int)+1 by omega]; exact he3
  ·obtain ⟨o,ho2,r⟩:=hst.1;exact ⟨o,(sb.2 it (Ne.symm hei)).trans ho2,r⟩
  ·have hb2:b < s.heap.objs.size:=by
    rcases (show b=e\/b=it by simpa using hb) with z | z
    ·rw [z]; exact hel
    ·rw [z]; exact hil
   rw [upd_ne (Nat.ne_of_lt hb2)]; exact (hf b hb).1
 done:=by
  intro X hP hw hK hc i pins s σ H E I hf st hg;subst hP hw hK;obtain ⟨⟨old,he⟩,hit⟩:=st;obtain ⟨xs,hq,hx⟩:=hg;obtain ⟨its,rv,p,hz⟩:=I.tuple hq;obtain ⟨f0,f1,f2,f3,f4,f5⟩:=hf it (by simp);have hl:=rv.length;have ht:s.heap.IsTuple a its.toArray:=p;have Dr:=Draws.tuple (prog:=X.prog) (w:=X.w) (A:=X.A.in1) (I.ok.hd hc) it a hai its.toArray;have hn:its.toArray.size=i:=by simp; omega
  refine wpAny_pyNext_enum_endD Dr he ⟨by rw [hn]; exact hit,ht⟩ fun h2 eb=>⟨rfl,I.turned (t':=s.toks) (fun b o hb z=>eb b o hb z) f0 f1 f3 f4 f5⟩
 self:=fun A i s Q E st h=>let ⟨⟨_,he⟩,_⟩:=st; wpAny_pyIter_enum he h
def ze0 (K:Qn) (te:TE):TI:=fun σ H R=>te σ H fun v H1=>∃ a xs,v=.ref a/\SqT K H1 a xs/\R (IteT K a) H1
theorem zbn {X:Cx} {ex:Expr} {te:TE} {p pos tpos:Pos} {elts:List Expr} {kk:Nat} (hg:Gl X "enumerate") (hm:X.mg "enumerate"=none) (he:PE X ex te) (hs:starEach [ex] X.env=(false,eval ex X.env)::starEach [] X.env:=by rfl) :
  PI X (.Tuple elts kk tpos) (.Call (.Name "enumerate" p) [ex] [] pos) (ze0 X.K te):=by
 refine ⟨fun pins s σ H R I h=>?_⟩;refine Call_ (ld_blt I hg hm boot_enumerate (PyProof.Rows.callWith_type1 (args_cons (thn (he.run pins s σ H _ I h) fun u s1 ⟨v,H1,I1,r1,q1⟩=>args_nil ?_) hs) hs rfl));obtain ⟨a,xs,ev,hq,q⟩:=q1;subst ev;cases r1;obtain ⟨its,rv,pt,hz⟩:=I1.tuple hq;have ht:s1.heap.IsTuple a its.toArray:=pt;have hal:a < s1.heap.objs.size:=by obtain ⟨_,z,_⟩:=ht; exact Heap.lt_size z
 refine z9o ht fun h2 he2 hit hk=>wpAny_pyIter_enum he2 ?_;have I2:Inv X pins σ H1 { s1 with heap:=h2 }:=I1.kept (t':=s1.toks) hk;refine ⟨s1.heap.objs.size+1,[s1.heap.objs.size+1,s1.heap.objs.size],_,_,H1,rfl,I2,z9p a (s1.heap.objs.size+1) s1.heap.objs.size (Nat.succ_ne_self _) (Nat.ne_of_lt hal) (Nat.ne_of_gt (Nat.lt_succ_of_lt hal)),⟨⟨.none,he2⟩,hit⟩,fun b hb=>?_,q⟩;have hle:s1.heap.objs.size<=b:=by
  rcases (show b=s1.heap.objs.size+1\/b=s1.heap.objs.size by simpa using hb) with z | z
  ·rw [z]; exact Nat.le_add_right _ _
  ·rw [z]; exact Yc _
 exact I1.fpOk hle (I1.hok.fresh hle)
theorem z9w {K:Qn} {a:Addr} {xs:List V}:Walk (IteT K a) xs.length (fun H=>SqT K H a xs) (YPair (fun i=>some (.int (i:Nat))) (fun i=>xs[i]?)):=by
 refine ⟨fun i _ hi q=>⟨xs,xs[i],q,by simp [hi]⟩,fun _ q=>⟨xs,q,rfl⟩,fun i H v H2 _ q y=>?_⟩;obtain ⟨T,x,h1,h2,h3,h4⟩:=y;exact ⟨T,.int (i:Nat),x,h1,h2,h3,rfl,h4 xs q⟩
abbrev Pl:=List Nat
def z0m (p:Pl):List PyData:=p.map fun n:Nat=>.int (n:Int)
def z1r (p:Pl):PyData:=.tuple (z0m p)
theorem z7a:∀ p q:Pl,alikeAll (z0m p) (z0m q)=true
 | [],_=>by simp [z0m,alikeAll]
 | _::_,[]=>by simp [z0m,alikeAll]
 | a::p,b::q=>by
  have:=z7a p q;show alikeAll (.int a::z0m p) (.int b::z0m q)=true;simp [alikeAll,alike,this]
theorem z9g:∀ p q:Pl,PyData.eqvAll (z0m p) (z0m q)=decide (p=q)
 | [],[]=>by simp [z0m,PyData.eqvAll]
 | [],_::_=>by simp [z0m,PyData.eqvAll]
 | _::_,[]=>by simp [z0m,PyData.eqvAll]
 | a::p,b::q=>by
  have ih:=z9g p q;show PyData.eqvAll (.int a::z0m p) (.int b::z0m q)=_;simp only [PyData.eqvAll,PyData.eqv,ih,ib];by_cases h:a=b
  ·subst h; simp
  ·have:¬ ((a:Int)=(b:Int)):=by omega
   simp [h,this]
instance:Orderly z1r where
 al a b:=by show alike (.tuple _) (.tuple _)=true; rw [alike]; exact z7a a b
 eq a b:=by show PyData.eqv (.tuple _) (.tuple _)=_; rw [PyData.eqv]; exact z9g a b
theorem z0s (p:Pl):z09 (z1r p)=true:=by
 have:∀ p:Pl,z0c (z0m p)=true:=by
  intro p
  induction p with
  | nil=>simp [z0m,z0c]
  | cons a r ih=>show z0c (.int a::z0m r)=true; simp [z0c,z09,ih]
 show z09 (.tuple _)=true;rw [z09]; exact this p
theorem z9i {K:Qn} {H:Hp} {v:V} {p:Pl} (h:Dp K H v (z1r p)):∃ a,v=.ref a/\SqT K H a (p.map fun n:Nat=>V.int (n:Int)):=by
 have key:∀ {p:Pl} {xs:List V},DpAll K H xs (z0m p)->xs=p.map fun n:Nat=>V.int (n:Int):=by
  intro p
  induction p with
  | nil=>intro xs h; cases h; rfl
  | cons a r ih =>
   intro xs h;cases h with
   | cons h1 h2=>cases h1; rw [ih h2]; rfl
 cases h with
 | tup hs ha=>rw [key ha] at hs; exact ⟨_,rfl,hs⟩
theorem zcj {K:Qn} {H:Hp} {a:Addr} {p:Pl} (h:SqT K H a (p.map fun n:Nat=>V.int (n:Int))):Dp K H (.ref a) (z1r p):=by
 refine Dp.tup h ?_;have key:∀ p:Pl,DpAll K H (p.map fun n:Nat=>V.int (n:Int)) (z0m p):=by
  intro p
  induction p with
  | nil=>exact .nil
  | cons a r ih=>exact .cons (.int _) ih
 exact key p
def Wh (K:Qn) (H:Hp) (v:V) (o:Option Int):Prop:=(∃ i,v=.int i/\o=some i)\/(o=none/\∃ (n:String) (b1 b2:Bool),TyX K H v (.type n)/\kitB n "int"=some b1/\(b1=true->kitB n "bool"=some b2)/\(b1&&!b2)=false)
inductive Whs (K:Qn) (H:Hp):List V->List (Option Int)->Prop where
 | nil:Whs K H [] []
 | cons {v:V} {o:Option Int} {vs:List V} {os:List (Option Int)}:Wh K H v o->Whs K H vs os->Whs K H (v::vs) (o::os)
section
variable {K:Qn} {H H':Hp}
theorem Whs.length:∀ {vs:List V} {os:List (Option Int)},Whs K H vs os->vs.length=os.length
 | _,_,.nil=>rfl
 | _,_,.cons _ h=>congrArg (·+1) h.length
theorem Whs.get:∀ {vs:List V} {os:List (Option Int)},Whs K H vs os->∀ {i:Nat} {v:V},vs[i]?=some v->∃ o,os[i]?=some o/\Wh K H v o
 | _,_,.nil,i,v,e=>by simp at e
 | _,_,.cons (o:=o) h hs,0,v,e=>by
  have:_=v:=Yd e;subst this; exact ⟨o,rfl,h⟩
 | _,_,.cons h hs,i+1,v,e=>hs.get (i:=i) e
theorem Wh.sb {v:V} {o:Option Int} (h:Wh K H v o) (e:SB [] H H'):Wh K H' v o:=by
 rcases h with h | ⟨h,n,b1,b2,ty,k⟩
 ·exact .inl h
 ·exact .inr ⟨h,n,b1,b2,z2i e (fun _ _=>nmn) ty,k⟩
theorem Whs.sb (e:SB [] H H'):∀ {vs:List V} {os:List (Option Int)},Whs K H vs os->Whs K H' vs os
 | _,_,.nil=>.nil
 | _,_,.cons h hs=>.cons (h.sb e) (Whs.sb e hs)
def plO (p:Pl):List (Option Int):=p.map fun n:Nat=>some (n:Int)
theorem Whs.pl (K:Qn) (H:Hp):∀ p:Pl,Whs K H (p.map fun n:Nat=>V.int (n:Int)) (plO p)
 | []=>.nil
 | n::r=>.cons (.inl ⟨_,rfl,rfl⟩) (Whs.pl K H r)
end
def stp (g:Gr):Option Int->Option Tr
 | none=>none
 | some n=>if 0<=n then (g.ps[n.toNat]?).map (·.1) else none
def lk:Tr->List (Option Int)->Option Tr
 | t,[]=>some t
 | t,o::r=>(stp t.2 o).bind fun u=>lk u r
theorem z37:∀ (t:Tr) (as bs:List (Option Int)),lk t (as++bs)=(lk t as).bind fun u=>lk u bs
 | t,[],bs=>rfl
 | t,o::r,bs=>by
  show (stp t.2 o).bind (fun u=>lk u (r++bs))=((stp t.2 o).bind fun u=>lk u r).bind fun u=>lk u bs;cases stp t.2 o with
  | none=>rfl
  | some u=>exact z37 u r bs
theorem zd8 {t:Tr} {os:List (Option Int)} {i:Nat} {o:Option Int} {u:Tr} (h1:lk t (os.take i)=some u) (h2:os[i]?=some o) (h3:stp u.2 o=none):lk t os=none:=by
 have hl:i < os.length:=(List.getElem?_eq_some_iff.mp h2).1;have e:os=os.take i++o::os.drop (i+1):=by
  have:=List.drop_eq_getElem_cons hl;rw [(List.getElem?_eq_some_iff.mp h2).2] at this;rw [<- this,List.take_append_drop]
 rw [e,z37,h1];show (stp u.2 o).bind _=none;rw [h3]; rfl
theorem zdv {t:Tr} {os:List (Option Int)} {i:Nat} {o:Option Int} {u x:Tr} (h1:lk t (os.take i)=some u) (h2:os[i]?=some o) (h3:stp u.2 o=some x):lk t (os.take (i+1))=some x:=by
 rw [Yg,h2,z37,h1];show (stp u.2 o).bind _=some x;rw [h3]; rfl
def z4t (K:Qn) (C:Addr):Sp:=fun vs H Q E=>∃ (v:V) (g:Gr) (a:Addr) (xs:List V) (os:List (Option Int)),vs=[v,.ref a]/\GA K H v g/\SqT K H a xs/\Whs K H xs os /\
 (∀ t,os ≠ []->lk ("",g) os=some t->∀ (x:V) (H':Hp),SB [] H H'->Dp K H' x (Gr.tEnc t)->Q x H')/\((os=[]\/lk ("",g) os=none)->∀ H',SB [] H H'->E (.ref C) none H')
mutual
inductive Tg (K:Qn) (H:Hp):V->PyData->Prop
 | int (i:Int):Tg K H (.int i) (.int i)
 | str (z:Str):z.length<=1000->Tg K H (.str z) (.str z)
 | tup {a:Addr} {xs:List V} {ds:List PyData}:SqT K H a xs->TgAll K H xs ds->Tg K H (.ref a) (.tuple ds)
 | oth {v:V} {n:String}:TyX K H v (.type n)->kitB n "tuple"=some false->kitB n "str"=some false->(kitB n "int"=some false\/n="bool")->Tg K H v .none
inductive TgAll (K:Qn) (H:Hp):List V->List PyData->Prop
 | nil:TgAll K H [] []
 | cons {v:V} {vs:List V} {d:PyData} {ds:List PyData}:Tg K H v d->TgAll K H vs ds->TgAll K H (v::vs) (d::ds)
end
mutual
def z1o:PyData->PyData
 | .int i=>.int i
 | .tuple ds=>.tuple (z3g ds)
 | _=>.none
def z3g:List PyData->List PyData
 | []=>[]
 | d::r=>z1o d::z3g r
end
theorem z55 (d:PyData):z0x (z1o d)=z0x d:=by cases d <;> simp [z1o,z0x]
section
variable {K:Qn} {H H':Hp}
mutual
theorem Tg.th:∀ {v:V} {d:PyData},Tg K H v d->Th K [] H v (z1o d)
 | _,_,.int i=>by rw [z1o]; exact .int i
 | _,_,.str z _=>by rw [z1o] <;> first | exact .oth (.base (.str z)) (by decide +kernel) (.inl (by decide +kernel)) (fun _ _=>nmn) | simp
 | _,_,.tup hs ha=>by rw [z1o]; exact .tup hs (TgAll.th ha)
 | _,_,.oth ty k1 _ k2=>by rw [z1o] <;> first | exact .oth ty k1 k2 (fun _ _=>nmn) | simp
theorem TgAll.th:∀ {vs:List V} {ds:List PyData},TgAll K H vs ds->z6k K [] H vs (z3g ds)
 | _,_,.nil=>by rw [z3g]; exact .nil
 | _,_,.cons h t=>by rw [z3g]; exact .cons (Tg.th h) (TgAll.th t)
end
mutual
theorem z1p (e:SB [] H H'):∀ {v:V} {d:PyData},Tg K H v d->Tg K H' v d
 | _,_,.int i=>.int i
 | _,_,.str z hz=>.str z hz
 | _,_,.tup hs ha=>.tup (e.sqT hs) (z4p e ha)
 | _,_,.oth ty k0 k1 k2=>.oth (z2i e (fun _ _=>nmn) ty) k0 k1 k2
theorem z4p (e:SB [] H H'):∀ {vs:List V} {ds:List PyData},TgAll K H vs ds->TgAll K H' vs ds
 | _,_,.nil=>.nil
 | _,_,.cons h t=>.cons (z1p e h) (z4p e t)
end
theorem TgAll.length:∀ {vs:List V} {ds:List PyData},TgAll K H vs ds->vs.length=ds.length
 | _,_,.nil=>rfl
 | _,_,.cons _ t=>by rw [Yk,Yk,TgAll.length t]
theorem TgAll.get:∀ {vs:List V} {ds:List PyData} {i:Nat} {v:V},TgAll K H vs ds->vs[i]?=some v->∃ d,ds[i]?=some d/\Tg K H v d
 | _,_,_,_,.nil,e=>by simp at e
 | _,_,0,_,.cons h t,e=>by simp at e; subst e; exact ⟨_,rfl,h⟩
 | _,_,i+1,v,.cons h t,e=>by
  obtain ⟨d,h1,h2⟩:=TgAll.get (i:=i) (v:=v) t (by simpa using e);exact ⟨d,by simpa using h1,h2⟩
theorem Tg.ty {v:V} {d:PyData} (h:Tg K H v d):∃ n b,TyX K H v (.type n)/\kitB n "tuple"=some b/\(b=true->∃ a xs ds,v=.ref a/\d=.tuple ds/\SqT K H a xs/\TgAll K H xs ds)/\(b=false->∀ ds,d ≠ .tuple ds):=by
 cases h with
 | int i=>exact ⟨"int",false,.base (.int i),by decide +kernel,fun z=>(nomatch z),fun _ ds z=>nomatch z⟩
 | str z hz=>exact ⟨"str",false,.base (.str z),by decide +kernel,fun z=>(nomatch z),fun _ ds z=>nomatch z⟩
 | tup hs ha=>exact ⟨"tuple",true,(z2h hs),by decide +kernel,fun _=>⟨_,_,_,rfl,rfl,hs,ha⟩,fun z=>(nomatch z)⟩
 | oth ty k1 _ k2=>exact ⟨_,false,ty,k1,fun z=>(nomatch z),fun _ ds z=>nomatch z⟩
theorem Tg.txt {v:V} {d:PyData} (h:Tg K H v d):∃ n b,TyX K H v (.type n)/\kitB n "str"=some b/\(b=true->∃ z,v=.str z/\d=.str z/\z.length<=1000)/\(b=false->∀ z,d ≠ .str z):=by
 cases h with
 | int i=>exact ⟨"int",false,.base (.int i),by decide +kernel,fun z=>(nomatch z),fun _ ds z=>nomatch z⟩
 | str z hz=>exact ⟨"str",true,.base (.str z),by decide +kernel,fun _=>⟨z,rfl,rfl,hz⟩,fun z=>(nomatch z)⟩
 | tup hs ha=>exact ⟨"tuple",false,(z2h hs),by decide +kernel,fun z=>(nomatch z),fun _ ds z=>nomatch z⟩
 | oth ty _ k1 k2=>exact ⟨_,false,ty,k1,fun z=>(nomatch z),fun _ ds z=>nomatch z⟩
end
instance (z:Str):Decidable (z03 z):=inferInstanceAs (Decidable (_/\_/\_))
def z1a:PyData->Bool
 | .str z=>decide (z03 z)
 | _=>false
mutual
def z0e:PyData->Bool
 | .tuple ds=>grPs ds&&z2m (ds.map exp0)
 | _=>false
def grPs:List PyData->Bool
 | []=>true
 | d::ds=>grP d&&grPs ds
def grP:PyData->Bool
 | .tuple ds=>grP2 ds
 | _=>false
def grP2:List PyData->Bool
 | []=>false
 | t::r=>z0n t&&z11 r
def z0n:PyData->Bool
 | .tuple ds=>trD2 ds
 | _=>false
def trD2:List PyData->Bool
 | []=>false
 | k::r=>z1a k&&trD3 r
def trD3:List PyData->Bool
 | []=>false
 | g::r=>z0e g&&r.isEmpty
end
theorem zat {r:List PyData} (h:z11 r=true):∃ i,r=[.int i]/\(1:Int)<=i:=by
 match r,h with
 | [],h=>simp [z11] at h
 | .int i::[],h=>simp [z11,z0x] at h; exact ⟨i,rfl,h⟩
 | .int i::_::_,h=>simp [z11] at h
 | .none::_,h=>simp [z11,z0x] at h
 | .bool _::_,h=>simp [z11,z0x] at h
 | .str _::_,h=>simp [z11,z0x] at h
 | .list _::_,h=>simp [z11,z0x] at h
 | .dict _::_,h=>simp [z11,z0x] at h
 | .tuple _::_,h=>simp [z11,z0x] at h
theorem z3a {d:PyData} (h:z1a d=true):∃ z,d=.str z/\z03 z:=by
 cases d with
 | str z=>exact ⟨z,rfl,of_decide_eq_true h⟩
 | _=>simp [z1a] at h
mutual
theorem z3h:∀ d:PyData,z0e d=true->∃ g:Gr,d=g.enc
 | .tuple ds,h=>by
  rw [z0e,Bool.and_eq_true] at h;obtain ⟨g,e⟩:=z4x ds h.1;exact ⟨g,by rw [e]; rfl⟩
 | .none,h=>by simp [z0e] at h
 | .bool _,h=>by simp [z0e] at h
 | .int _,h=>by simp [z0e] at h
 | .str _,h=>by simp [z0e] at h
 | .list _,h=>by simp [z0e] at h
 | .dict _,h=>by simp [z0e] at h
theorem z4x:∀ ds:List PyData,grPs ds=true->∃ g:Gr,ds=g.encs
 | [],_=>⟨.nil,rfl⟩
 | d::ds,h=>by
  rw [grPs,Bool.and_eq_true] at h;obtain ⟨r,er⟩:=z4x ds h.2;obtain ⟨t,i,ed,he⟩:=z6w d h.1;exact ⟨.cons t.1 t.2 i r,by rw [er,ed]; rfl⟩
theorem z6w:∀ d:PyData,grP d=true->∃ (t:Tr) (i:Int),d=.tuple [Gr.tEnc t,.int i]/\(1:Int)<=i
 | .tuple ds,h=>by
  rw [grP] at h;obtain ⟨e,i,ed,he⟩:=zc8 ds h;exact ⟨e,i,by rw [ed],he⟩
 | .none,h=>by simp [grP] at h
 | .bool _,h=>by simp [grP] at h
 | .int _,h=>by simp [grP] at h
 | .str _,h=>by simp [grP] at h
 | .list _,h=>by simp [grP] at h
 | .dict _,h=>by simp [grP] at h
theorem zc8:∀ ds:List PyData,grP2 ds=true->∃ (t:Tr) (i:Int),ds=[Gr.tEnc t,.int i]/\(1:Int)<=i
 | [],h=>by simp [grP2] at h
 | d::r,h=>by
  rw [grP2,Bool.and_eq_true] at h;obtain ⟨t,et⟩:=z7v d h.1;obtain ⟨i,er,hi⟩:=zat h.2;exact ⟨t,i,by rw [et,er],hi⟩
theorem z7v:∀ d:PyData,z0n d=true->∃ t:Tr,d=Gr.tEnc t
 | .tuple ds,h=>by
  rw [z0n] at h;obtain ⟨t,et⟩:=zby ds h;exact ⟨t,by rw [et]; rfl⟩
 | .none,h=>by simp [z0n] at h
 | .bool _,h=>by simp [z0n] at h
 | .int _,h=>by simp [z0n] at h
 | .str _,h=>by simp [z0n] at h
 | .list _,h=>by simp [z0n] at h
 | .dict _,h=>by simp [z0n] at h
theorem zby:∀ ds:List PyData,trD2 ds=true->∃ t:Tr,ds=[.str t.1,t.2.enc]
 | [],h=>by simp [trD2] at h
 | d::r,h=>by
  rw [trD2,Bool.and_eq_true] at h;obtain ⟨z,ez,_⟩:=z3a h.1;obtain ⟨g,eg⟩:=zbq r h.2;exact ⟨(z,g),by rw [ez,eg]⟩
theorem zbq:∀ ds:List PyData,trD3 ds=true->∃ g:Gr,ds=[g.enc]
 | [],h=>by simp [trD3] at h
 | d::r,h=>by
  rw [trD3,Bool.and_eq_true] at h;obtain ⟨g,eg⟩:=z3h d h.1;have:r=[]:=by cases r with | nil=>rfl | cons _ _=>simp at h
  exact ⟨g,by rw [eg,this]⟩
end
section
variable {K:Qn} {H:Hp}
theorem za1 {C:Int}:∀ (g:Gr) {vs:List V},g.Ok C->DpAll K H vs g.encs->TgAll K H vs g.encs
 | .nil,vs,_,h=>by cases h; exact .nil
 | .cons k g m r,vs,ho,h=>by
  cases h with
  | cons h1 h2 =>
   refine .cons ?_ (za1 r ho.2.2.2.2.1 h2);cases h1 with
   | tup hs ha =>
    cases ha with
    | cons h3 h4 =>
     cases h4 with
     | cons h5 h6 =>
      cases h6; cases h5;refine .tup hs (.cons ?_ (.cons (.int _) .nil));cases h3 with
      | tup hs2 hb =>
       cases hb with
       | cons h7 h8 =>
        cases h8 with
        | cons h9 h10 =>
         cases h10; cases h7;cases h9 with
         | tup hs3 hc=>exact .tup hs2 (.cons (.str _ (by have:=ho.1.2.1; simp [Str.length]; simp at this; omega)) (.cons (.tup hs3 (za1 g ho.2.1 hc)) .nil))
theorem z2t:∀ (g:Gr) {vs:List V},TgAll K H vs g.encs->DpAll K H vs g.encs
 | .nil,vs,h=>by cases h; exact .nil
 | .cons k g m r,vs,h=>by
  cases h with
  | cons h1 h2 =>
   refine .cons ?_ (z2t r h2);cases h1 with
   | tup hs ha =>
    cases ha with
    | cons h3 h4 =>
     cases h4 with
     | cons h5 h6 =>
      cases h6; cases h5;refine .tup hs (.cons ?_ (.cons (.int _) .nil));cases h3 with
      | tup hs2 hb =>
       cases hb with
       | cons h7 h8 =>
        cases h8 with
        | cons h9 h10 =>
         cases h10; cases h7;cases h9 with
         | tup hs3 hc=>exact .tup hs2 (.cons (.str _) (.cons (.tup hs3 (z2t g hc)) .nil))
end
def z87 (K:Qn):Sp:=fun vs H Q _=>∃ (v:V) (d:PyData),vs=[v]/\Tg K H v d/\∀ H',SB [] H H'->Q (.bl (z1a d)) H'
def z1j (K:Qn) (n:Nat):Sp:=fun vs H Q _=>∃ (v:V) (d:PyData),vs=[v]/\Tg K H v d/\d.depth < n/\d.depth<=80/\wide d<=1000/\∀ H',SB [] H H'->Q (.bl (z0n d)) H'
def z1d (K:Qn) (n:Nat):Sp:=fun vs H Q _=>∃ (v:V) (d:PyData),vs=[v]/\Tg K H v d/\d.depth < n/\d.depth<=80/\wide d<=1000/\∀ H',SB [] H H'->Q (.bl (z0e d)) H'
def z23 (K:Qn) (tp:Bool) (n:Nat):Sp:=fun vs H Q _=>∃ (a:Addr) (xs:List V) (ds:List PyData),vs=[.ref a]/\(if tp=true then SqT K H a xs else SqL K H a xs)/\TgAll K H xs ds/\PyData.depthAll ds < n/\PyData.depthAll ds<=79/\wide (.tuple ds)<=1000/\∀ H',SB [] H H'->Q (.bl (grPs ds)) H'
def z9c (K:Qn):Sp:=fun vs H Q _=>∃ (z y:Str) (k:Nat),vs=[.str z,.int (k:Int),.str y]/\z.length<=100000/\k<=z.length/\∀ e:Nat,k<=e->e<=z.length->(∀ j c,k<=j->j < e->z.cps.toList[j]?=some c->c ∈ y.cps.toList)->(∀ c,z.cps.toList[e]?=some c->c ∉ y.cps.toList)->Q (.str (cutS z (some (k:Int)) (some (e:Int)))) H
theorem z95 (c:Nat):c ∈ abc.cps.toList ↔ 97<=c/\c<=122:=by
 have e:abc.cps.toList=(List.range 26).map (·+97):=by decide +kernel
 rw [e,List.mem_map];constructor
 ·rintro ⟨x,hx,rfl⟩
  have:=List.mem_range.mp hx;omega
 ·intro h;exact ⟨c-97,List.mem_range.mpr (by omega),by omega⟩
theorem z48 (z:Str):z.cps.toList.length=z.length:=by simp [Str.length]
theorem cut0 (z:Str) {e:Nat} (he:e<=z.length):(cutS z (some ((0:Nat):Int)) (some (e:Int))).cps.toList=z.cps.toList.take e:=by
 unfold cutS;rw [HT.sIx_nat,HT.sIx_nat];simp [Nat.min_eq_left he]
theorem zcf {z:Str} {e:Nat} (h1:1<=z.length) (h8:z.length<=8) (he:e<=z.length) (hin:∀ j c,0<=j->j < e->z.cps.toList[j]?=some c->c ∈ abc.cps.toList) (hout:∀ c,z.cps.toList[e]?=some c->c ∉ abc.cps.toList) :
  decide (V.str (cutS z (some ((0:Nat):Int)) (some (e:Int)))=V.str z)=z1a (.str z):=by
 have hl:=z48 z;rw [Bool.eq_iff_iff,decide_eq_true_iff,z1a,decide_eq_true_iff];constructor
 ·intro h
  injection h with h
  have h2:=cut0 z he;rw [h] at h2;have h3:z.cps.toList.length=min e z.cps.toList.length:=by
   have:=congrArg List.length h2
   rwa [List.length_take] at this
  refine ⟨by omega,by omega,fun c hc=>?_⟩;obtain ⟨j,hj⟩:=List.mem_iff_getElem?.mp hc;have hj2:=(List.getElem?_eq_some_iff.mp hj).1;exact (z95 c).mp (hin j c (Nat.zero_le _) (by omega) hj)
 ·rintro ⟨_,_,hall⟩
  have e1:e=z.length:=by
   rcases Nat.lt_or_ge e z.length with h | h
   ·obtain ⟨c,hc⟩:∃ c,z.cps.toList[e]?=some c:=⟨_,List.getElem?_eq_getElem (by omega)⟩;exact absurd ((z95 c).mpr (hall c (Qu hc))) (hout c hc)
   ·omega
  have h2:=cut0 z he;rw [e1,<- hl,Yh] at h2
  congr 1
  have h3:∀ a b:Str,a.cps.toList=b.cps.toList->a=b:=by
   intro a b hab;cases a; cases b
   congr 1
   exact Array.toList_inj.mp hab
  rw [e1,<- hl];exact h3 _ _ h2
theorem z8q {z:Str} (h:¬ (1<=z.length/\z.length<=8)):z1a (.str z)=false:=by
 have hl:=z48 z;rw [z1a];exact Qz fun ⟨h1,h2,_⟩=>h ⟨by omega,by omega⟩
theorem z8d {z:Str} (h:z03 z):z1a (.str z)=true:=Ya h
theorem zbr {t:Tr} (h0:z03 t.1) (h:z0e t.2.enc=true):z0n (Gr.tEnc t)=true:=by
 rw [Gr.tEnc,z0n,trD2,trD3,z8d h0,h]; rfl
theorem zee {t:Tr} {m:Int} (h0:z03 t.1) (h:z0e t.2.enc=true) (hm:1<=m):grP (Gr.pEnc (t,m))=true:=by
 show grP (.tuple [Gr.tEnc t,.int m])=true;rw [grP,grP2,z11,zbr h0 h];simp [z0x,hm]
theorem z2c {C:Int}:∀ {g:Gr},g.Ok C->z0e g.enc=true
 | .nil,_=>by decide +kernel
 | .cons k g m r,⟨h0,h1,h2,h3,h4,h5⟩=>by
  have a1:=z2c h1;have a2:=z2c h4;rw [Gr.enc,z0e,Bool.and_eq_true] at a2;have hp:grP (Gr.pEnc ((k,g),m))=true:=zee h0 a1 h2;have e:(Gr.cons k g m r).encs=Gr.pEnc ((k,g),m)::r.encs:=rfl;rw [Gr.enc,z0e,e,grPs,hp,a2.1,Bool.true_and,Bool.true_and,List.map_cons];cases r with
  | nil=>rfl
  | cons k2 g2 m2 r2 =>
   have hlt:dataLt (Gr.tEnc (k,g)) (Gr.tEnc (k2,g2))=true:=h5 ((k2,g2),m2) (mcs ..);have e2:(Gr.cons k2 g2 m2 r2).encs=Gr.pEnc ((k2,g2),m2)::r2.encs:=rfl;have a3:=a2.2;rw [e2,List.map_cons] at a3 ⊢;show (dataLt (Gr.tEnc (k,g)) (Gr.tEnc (k2,g2))::ltsD _).all id=true;rw [List.all_cons,show id (dataLt (Gr.tEnc (k,g)) (Gr.tEnc (k2,g2)))=true from hlt,Bool.true_and];exact a3
theorem z35:∀ g:Gr,z13 g.encs<=2+g.parts/\g.encs.length<=g.parts
 | .nil=>⟨by show z13 []<=_; rw [z13]; omega,Yc _⟩
 | .cons k g m r=>by
  obtain ⟨h1,h2⟩:=z35 g;obtain ⟨h3,h4⟩:=z35 r;have e:(Gr.cons k g m r).encs=Gr.pEnc ((k,g),m)::r.encs:=rfl;have e2:wide (Gr.pEnc ((k,g),m))<=2+g.parts:=by
   show wide (.tuple [.tuple [.str k,.tuple g.encs],.int m])<=_;simp only [wide,z13,Yk,List.length_nil];omega
  rw [e,z13,Yk];show _<=2+(1+g.parts+r.parts)/\_<=1+g.parts+r.parts;omega
section
variable {K:Qn} {H:Hp} {C:Int}
theorem z86 {g:Gr} {v:V} (ho:g.Ok C) (h:GA K H v g):Tg K H v g.enc:=by
 cases (h:Dp K H v (.tuple g.encs)) with
 | tup hs ha=>exact .tup hs (za1 g ho ha)
theorem za7 {z:Str} (h:z03 z):z.length<=1000:=by
 have:=h.2.1;rw [z48] at this;omega
end
theorem SB.setD {H:Hp} {p:Addr} {kvs:List (Key × V)} {ps:List Addr} (h:H p=some (.dK kvs)) (hp:p ∈ ps) (o:HO):SB ps H (upd H p o):=by
 refine ⟨fun b u e n=>?_,fun b u e=>?_,fun b v u e=>?_,fun b e=>?_⟩
 ·rw [upd_ne (fun (z:b=p)=>n (by rw [z]; exact hp))]; exact e
 ·rw [upd_ne (fun (z:b=p)=>by subst z; rw [h] at e; cases e)]; exact e
 ·rw [upd_ne (fun (z:b=p)=>by subst z; rw [h] at e; cases e)]; exact e
 ·by_cases q:b=p
  ·subst q; rw [Qt] at e; cases e
  ·rw [upd_ne q] at e; exact e
open TL (tl)
theorem zbv {P:Program} {w:World} {K:Qn} {mg:Str->Option Value} {base:Heap} {f:Addr} {fd:FuncData} {ps:List Str} {k:Nat} {sp:Sp} (no:∀ vs H Q E,¬ sp vs H Q E):FnOk P w K mg base (L2.CX P w) k f fd ps sp :=
 ⟨fun vs H Q E h=>absurd h (no vs H Q E),fun A outer s H args us vs Q E _ _ _ _ h=>absurd h (no vs H Q E)⟩
def met (xs:List Str):Nat->List Str
 | 0=>[]
 | i+1=>if (met xs i).any (· == xs.getD i Str.empty)=true then met xs i else met xs i++[xs.getD i Str.empty]
theorem z6c (xs:List Str):∀ i,(met xs i).length<=i
 | 0=>Yc _
 | i+1=>by
  have:=z6c xs i;unfold met
  split
  ·omega
  ·rw [Yf]; simp; omega
theorem zda (xs:List Str) (i:Nat) (k:Str):(met xs (i+1)).any (· == k)=((met xs i).any (· == k) || decide (k=xs.getD i Str.empty)):=by
 rw [met];by_cases e:k=xs.getD i Str.empty
 ·subst e
  split
  ·rename_i h; rw [h]; simp
  ·simp
 ·rw [Qz e,Bool.or_false]
  split
  ·rfl
  ·rw [List.any_append];have:([xs.getD i Str.empty].any (· == k))=false:=by
    simp only [List.any_cons,List.any_nil,Bool.or_false,beq_eq_false_iff_ne];exact fun z=>e z.symm
   rw [this,Bool.or_false]
theorem zdl (xs:List Str) (i:Nat):(met xs (i+1)).length=if (met xs i).any (· == xs.getD i Str.empty)=true then (met xs i).length else (met xs i).length+1:=by
 rw [met]; split <;> simp
abbrev SetOfS (P:Program) (w:World) (h:Heap) (a:Addr) (L:List Str):Prop:=h.SetOf (PySem.strKind P w) a (fun k=>L.any (· == k)) L.length
theorem SetOfS.keep {P:Program} {w:World} {h h':Heap} {a:Addr} {L:List Str} (S:SetOfS P w h a L) (k:∀ o,h.get? a=some o->h'.get? a=some o):SetOfS P w h' a L:=by
 obtain ⟨o,es,ep,t,ho,r⟩:=S; exact ⟨o,es,ep,t,k o ho,r⟩
section
variable {P:Program} {w:World} {A:Around}
theorem zbm {R:Result->Shared->Prop} {I:Addr} {fp wr:List Addr} {G:Array GenState->Array GenState->Prop} {n:Nat} {Pv:Nat->Value->Prop} {St:Nat->Shared->Prop} (W:WalksS P w A.in1 I fp wr G n Pv St) (S:Addr) (hSf:S ∉ fp) (xs:List Str) (hn:n+1 < scanBound)
  (hval:∀ i v,Pv i v->∃ t,v=.str (xs.getD i Str.empty) t):∀ (k i:Nat) (s:Shared),k+i=n->St i s->SetOfS P w s.heap S (met xs i) ->
   (∀ s',Moved (S::wr) G s s'->SetOfS P w s'.heap S (met xs n)->R (.ok (.ret .none)) s')->codeAny (model P w) A (.builtin "set.update.loop" ⟨[.ref S,.ref I],[]⟩) R s:=by
 have out:S ∉ wr:=fun z=>hSf (W.sub _ z);have up:∀ b ∈ wr,b ∈ S::wr:=fun b z=>mcm _ z;intro k
 induction k with
 | zero =>
  intro i s e st hS hR;rw [Nat.zero_add] at e; subst e;refine codeAny_builtin F.entry_set_update_loop (by
   rw [Around.under_plainId F.plain_set_update_loop _];show wpAny _ A.in1 (pyNext (.ref I) >>= _) _ _ s;refine wpAny_bind (W.done s _ _ st fun s' hm=>?_);show wpAny _ A.in1 (ret Value.none) _ _ s';exact wpAny_pure (hR s' (hm.mono up) (hS.keep fun o e=>hm.heap S o out e)))
 | succ k ih =>
  intro i s e st hS hR;have lt:i < n:=by omega
  refine codeAny_builtin F.entry_set_update_loop (by
   rw [Around.under_plainId F.plain_set_update_loop _];show wpAny _ A.in1 (pyNext (.ref I) >>= _) _ _ s;refine wpAny_bind (W.item i s _ _ lt st fun v s' hP st' hm=>?_);obtain ⟨t,rfl⟩:=hval i v hP;have hS':SetOfS P w s'.heap S (met xs i):=hS.keep fun o e=>hm.heap S o out e;show wpAny _ A.in1 (holding [Value.str (xs.getD i Str.empty) t] (setAdd S (.str (xs.getD i Str.empty) t)) >>= _) _ _ s';refine wpAny_bind (wpAny_holding ?_);unfold setAdd;refine wpAny_holding (wpAny_bind ((PySem.strKind P w).pyHash (k:=xs.getD i Str.empty) (PySem.Froz.is_str _ _) ?_));have room:(met xs i).length+1 < scanBound:=by have:=z6c xs i; omega
   refine wpAny_setAddHashed_of (knd:=PySem.strKind P w) (s:={ s' with toks:=s'.toks+1 }) (PySem.Froz.is_str _ _) rfl hS' room fun h' hsb hS2=>?_;have hSi:SetOfS P w h' S (met xs (i+1)):=SetOf_congr hS2 (fun k'=>(zda xs i k').symm) (zdl xs i).symm;refine wpAny_pure ⟨plainId_quiet F.plain_set_update_loop _,ih (i+1) _ (by omega) (W.frame _ s' _ _ st' (Nat.le_succ _) fun b hb o e=>?_) hSi fun s'' hm'' hS''=>?_⟩
   ·rw [hsb.2 b fun z:b=S=>hSf (z ▸ hb)]; exact e
   ·refine hR s'' (Moved.trans W.gtrans ((hm.mono up).then_heap (Nat.le_succ _) fun b o hb e=>?_) hm'') hS'';rw [hsb.2 b fun z:b=S=>hb (z ▸ mcs)]; exact e)
abbrev eo (led:Bool):Obj:={ cls:=.type "set",dict:=none,data:=.set #[] 0 (.fresh 0 0 led) }
set_option maxHeartbeats 8000000 in
theorem zal {E:Value->Shared->Prop} {s:Shared} {l:Addr} {its:Array Value} {xs:List Str} {Q:Value->Shared->Prop} (hh:A.handled=none) (hl:s.heap.IsList l its) (hi:StrsAre its.toList xs) (hb:its.size+1 < scanBound)
  (h:∀ (h':Heap) (tk:Nat),SetOfS P w h' s.heap.objs.size (met xs its.size)->(∀ b o,b < s.heap.objs.size->s.heap.get? b=some o->h'.get? b=some o)->Q (.ref s.heap.objs.size) { s with heap:=h',toks:=tk }) :
  wpAny (model P w) A (call (.type "set") [.ref l]) Q E s:=by
 obtain ⟨c,tl',hmro⟩:=PySem.F.called_set.mro;have k1:=PySem.F.called_set.made; have k2:=PySem.F.called_set.sub;refine wpAny_call (codeAny_of_tree (by
  show wpAny _ _ (callAny (.type "set") _) _ _ _;refine wpAny_pure ⟨Code.quiet_builtin _ (by decide +kernel),codeAny_builtin PySem.F.entry_type_call ?_⟩;rw [Around.under_plain (weight_type_call_type "set" [.ref l] []) rfl];have k3:=PySem.F.called_set.notType; have k4:=PySem.F.called_set.canCreate; have k5:=PySem.F.typeCall_set_1 (.ref l)
  repeat (any_goals (first | assumption | wp_step))
  refine codeAny_mono (code_set_new_1 (.ref l) (E:=E) (Q₁:=fun ob z=>∃ led:Bool,ob=.ref s.heap.objs.size/\z={ s with heap:=s.heap.push (eo led) }) fun led=>⟨led,rfl,rfl⟩) fun r z hr=>?_;cases r with
  | error e=>exact hr
  | ok fl =>
  cases fl with
  | ret ob =>
   obtain ⟨led,rfl,rfl⟩:=hr;have at0:(s.heap.push (eo led)).get? s.heap.objs.size=some (eo led):=Heap.get?_push_size _ rfl;have ty0:Shared.TypeIs { s with heap:=s.heap.push (eo led) } (.ref s.heap.objs.size) "set":=⟨_,at0,rfl⟩;have k6:=PySem.F.called_set.init.lookup; have k7:=PySem.F.called_set.init.bind (.ref s.heap.objs.size)
   repeat (any_goals (first | assumption | wp_step))
   refine codeAny_mono (codeAny_call_builtin (R:=wants (fun r s₂=>r=.none/\∃ h' tk,s₂={ s with heap:=h',toks:=tk }/\SetOfS P w h' s.heap.objs.size (met xs its.size)/\(∀ b o,b < s.heap.objs.size->s.heap.get? b=some o->h'.get? b=some o)) E) PySem.F.called_set.init.plain PySem.F.entry_set_init (check_set_init_1 ty0 ?_)) fun r₂ s₂ hr₂=>?_
   ·obtain ⟨⟨oc,od,oda,osl⟩,hol,hcl,nl,hdl⟩:=hl;simp only at hcl hdl;subst hcl hdl;have hol':(s.heap.push (eo led)).get? l=some ⟨.type "list",od,.seq its nl,osl⟩:=Heap.get?_push_of_some _ hol;have k8:=PySem.F.sub_list_set; have k9:=PySem.F.sub_list_frozenset;have k10:(Value.type "list" == Value.type "dict")=false:=by decide
    have isl:(s.heap.push (eo led)).IsList l its:=⟨_,hol',rfl,nl,rfl⟩;unfold Builtin.«set.__init__» noKeywords Builtin.Frozenset.updateFrom;generalize hPI:pyIter=PI
    wp_walk
    subst hPI;refine wpAny_pyIter_list isl (wpAny_bind (wpAny_runValue ?_));have ltl:l < s.heap.objs.size:=Heap.lt_size hol;have sz1:(s.heap.push (eo led)).objs.size=s.heap.objs.size+1:=Heap.size_push ..;have lne:l ≠ (s.heap.push (eo led)).objs.size:=Nat.ne_of_lt (sz1 ▸ Nat.lt_succ_of_lt ltl);have nin:s.heap.objs.size ∉ [(s.heap.push (eo led)).objs.size,l]:=by
     intro z;rcases Qv z with z | z
     ·exact absurd (z.trans sz1) (Nat.ne_of_lt (Nat.lt_succ_self _))
     ·have:s.heap.objs.size=l:=by simpa using z
      exact absurd this.symm (Nat.ne_of_lt ltl)
    refine zbm ((Walks.list (show A.in1.in1.in1.handled=none by simp [hh]) _ l lne its).toS) s.heap.objs.size nin xs hb (fun i v hv=>SS.strs_at hi i v (by rw [Array.getElem?_toList]; exact hv)) its.size 0 _ rfl ⟨⟨_,Heap.get?_push_size _ rfl,rfl,rfl⟩,isl.push _⟩ ?c1 ?c2
    case c1=>exact SetOf_congr ((setObjOf_fresh (knd:=PySem.strKind P w) led).setOf (Heap.get?_push_of_some _ at0) (by unfold scanBound; omega)) (fun _=>rfl) rfl
    case c2 =>
     rintro ⟨h',g',d',tk',os'⟩ hm hS'
     have eg:g'=s.gens:=hm.gens; have ed:d'=s.drawn:=hm.drawn; have eo':os'=s.os:=hm.os;subst eg ed eo';show wpAny _ _ _ _ _ _;refine wpAny_pure (show wpAny _ _ (ret Value.none) _ _ _ from wpAny_pure ⟨rfl,h',tk',rfl,hS',fun b o hb' e=>hm.heap b o (fun z=>?_) (Heap.get?_push_of_some _ (Heap.get?_push_of_some _ e))⟩);rcases Qv z with z | z
     ·exact absurd z (Nat.ne_of_lt hb')
     ·have:b=(s.heap.push (eo led)).objs.size:=by simpa using z
      exact absurd (this.trans sz1) (Nat.ne_of_lt (Nat.lt_succ_of_lt hb'))
   ·cases r₂ with
    | error e=>exact hr₂
    | ok fl₂ =>
    cases fl₂ with
    | ret r =>
     obtain ⟨rfl,h',tk,rfl,hS',hk'⟩:=hr₂
     repeat (any_goals (first | assumption | wp_step))
     exact h _ _ hS' hk'
    | _=>exact hr₂.elim
  | _=>exact hr.elim))
end
theorem z75 (xs:List Str):∀ (i:Nat) (k:Str),k ∈ met xs i ↔ ∃ j,j < i/\xs.getD j Str.empty=k
 | 0,k=>by simp [met]
 | i+1,k=>by
  rw [met];have ih:=z75 xs i k
  split
  ·rename_i h;rw [ih];refine ⟨fun ⟨j,a,b⟩=>⟨j,by omega,b⟩,fun ⟨j,a,b⟩=>?_⟩;by_cases e:j=i
   ·subst e;obtain ⟨y,hy,he⟩:=List.any_eq_true.mp h;have:=(z75 xs j y).mp hy;rw [beq_iff_eq.mp he,b] at this;exact this
   ·exact ⟨j,by omega,b⟩
  ·rw [List.mem_append,ih];refine ⟨fun z=>?_,fun ⟨j,a,b⟩=>?_⟩
   ·rcases z with ⟨j,a,b⟩ | z
    ·exact ⟨j,by omega,b⟩
    ·exact ⟨i,by omega,(Qy z).symm⟩
   ·by_cases e:j=i
    ·subst e; exact .inr (List.mem_singleton.mpr b.symm)
    ·exact .inl ⟨j,by omega,b⟩
theorem z2b (xs:List Str):∀ i,(met xs i).Nodup
 | 0=>List.nodup_nil
 | i+1=>by
  rw [met]
  split
  ·exact z2b xs i
  ·rename_i h;refine List.nodup_append.mpr ⟨z2b xs i,by simp,fun a ha b hb e=>h ?_⟩;rw [Qy hb] at e;exact List.any_eq_true.mpr ⟨a,ha,beq_iff_eq.mpr e⟩
theorem zdj (xs:List Str) (k:Str):k ∈ met xs xs.length ↔ k ∈ xs:=by
 rw [z75];refine ⟨fun ⟨j,a,b⟩=>?_,fun h=>?_⟩
 ·rw [<- b,List.getD_eq_getElem?_getD,List.getElem?_eq_getElem a]; exact List.getElem_mem a
 ·obtain ⟨j,a,b⟩:=List.getElem_of_mem h;exact ⟨j,a,by rw [List.getD_eq_getElem?_getD,List.getElem?_eq_getElem a]; exact b⟩
theorem z8r (xs:List Str):∀ i,i<=xs.length->(met xs i).length=i->met xs i=xs.take i
 | 0,_,_=>by simp [met]
 | i+1,hi,h=>by
  have hl:=z6c xs i;rw [met] at h ⊢
  split at h
  ·omega
  ·rename_i hn;rw [if_neg hn];rw [Yf,Yi] at h;rw [z8r xs i (by omega) (by omega),Yg,List.getD_eq_getElem?_getD,List.getElem?_eq_getElem (by omega)]
   rfl
theorem z7o (xs:List Str):(met xs xs.length).length=xs.length ↔ xs.Nodup:=by
 constructor
 ·intro h;have e:=z8r xs xs.length (Yc _) h;rw [Yh] at e;rw [<- e]; exact z2b xs _
 ·intro h;exact ((List.perm_ext_iff_of_nodup (z2b xs _) h).mpr fun k=>zdj xs k).length_eq
section
variable {X:Cx}
def zbs (K:Qn) (ta:TE):TE:=fun σ H Q=>ta σ H fun x H1=>∃ (l:Addr) (zs:List Str),x=V.ref l/\SqL K H1 l (zs.map V.str)/\zs.length < 1000/\Q (.int (met zs zs.length).length) H1
theorem za9 {a:Expr} {ta:TE} {p p2 q pos:Pos} (hc:X.calm=true) (B:BI X.mg) (g1:Gl X "len") (g2:Gl X "set") (ha:PE X a ta)
  (na:starEach [a] X.env=(false,eval a X.env)::starEach [] X.env:=by rfl):PE X (.Call (.Name "len" p) [.Call (.Name "set" p2) [a] [] q] [] pos) (zbs X.K ta):=by
 refine ⟨fun pins s σ H Q I h=>Call_ (ld_blt I g1 B.len PySem.boot_len ?_)⟩;refine PyProof.Rows.callWith_builtin1 (PyProof.Rows.args_cons (Call_ (ld_blt I g2 B.set PyProof.Rows.boot_set ?_)) rfl) rfl rfl;refine PyProof.Rows.callWith_type1 (PyProof.Rows.args_cons (thn (ha.run pins s σ H _ I h) fun v s1 ⟨x,H1,I1,r1,l,zs,ex,hq,h1,q1⟩=>PyProof.Rows.args_nil ?_) na) na rfl;subst ex;cases r1;obtain ⟨its,rv,pl,hz⟩:=I1.list hq;have hlen:its.toArray.size=zs.length:=by rw [List.size_toArray,<- rv.length,Ye]
 refine zal (xs:=zs) (I1.ok.hd hc) pl.isList (by simpa using rv.strs) (by rw [hlen]; unfold scanBound; omega) fun h' tk hS hk=>PyProof.Rows.args_nil ?_;rw [hlen] at hS;have hm:=z6c zs zs.length;obtain ⟨o,es,ep,t,ho,hex,hd,_,_,_,hf,hn⟩:=hS;have J:Inv X pins σ H1 { s1 with heap:=h',toks:=tk }:=I1.kept fun b o e=>hk b o (Heap.lt_size e) e;exact call_len_set ho hex hd hf (by rw [hn]; omega) ⟨.int (met zs zs.length).length,H1,J.tok _,⟨_,by rw [hn]⟩,q1⟩
end
section
variable {X:Cx} {CX:CXT} {k:Nat} {f C:Addr} {fd:FuncData} {ps:List Str} {sp:Sp} {E:L2.St->XK} {x m:Str} {p pos apos:Pos} {e o:Expr} {es:List Expr} {ta:TE} {t:TA}
def z3b (C:Addr) (m:Str) (sp:Sp) (E:L2.St->XK) (ta:TE) (t:TA):TE:=fun σ H Q=>ta σ H fun y H1=>∃ a dx fs,y=.ref a/\H1 a=some (.ins C dx fs)/\fs.lookup m=none/\t σ H1 fun vs H2=>sp (y::vs) H2 Q (E σ)
def zbc (C:Addr) (sp:Sp) (E:L2.St->XK) (t:TA):TE:=fun σ H Q=>t σ H fun vs H1=>∀ y dx,H1 y=none->H1 dx=none->dx ≠ y ->
 sp (.ref y::vs) (upd (upd H1 dx (.own y)) y (.ins C dx [])) (fun v H2=>v=.non/\Q (.ref y) H2) (E σ)
theorem z8t {pl:Sem Bool} (ho:PE X o ta) (c:Cls X.K C) (hm:Meth X.K C m f) (F:FnOk X.prog X.w X.K X.mg X.base CX k f fd ps sp) (hr:Room k X.A) (hb:Binds X.K fd ps []) (hx:∀ σ,PassesAt CX X σ (E σ)) (ha:PA X (e::es) t)
  (hst:starEach (e::es) X.env=(false,eval e X.env)::starEach es X.env:=by rfl) (hpl:(backTo pos (starEach es X.env)).any (·.1)=false:=by rfl)
  (ht:eval (.Call (.Attribute o m apos) (e::es) [] pos) X.env=(do
    let ov <- eval o X.env
    standAt apos.atName
    let (g,first) <- holding [ov] (getMethod ov m pl)
    callWith pos g first (backTo pos (starEach (e::es) X.env)) (backToKw pos (keywordEach [] X.env))):=by rfl) :
  PE X (.Call (.Attribute o m apos) (e::es) [] pos) (z3b C m sp E ta t):=by
 refine ⟨fun pins s σ H Q I h=>PySem.W.methodCall_KW (pl:=pl) (thn (ho.run pins s σ H _ I h) fun u s1 ⟨y,H1,I1,ry,a,dx,fs,ey,ea,l,q⟩=>?_) ht⟩;subst ey;cases (show u=Value.ref a from ry);exact getmeth_ok I1 ea c hm l (PySem.W.callWith_K (first:=[.ref a]) (h₀:=X.base) I.ok.mod.kin hm.kp
  (thn (ha.run pos pins s1 σ H1 _ I1 q) fun us s2 ⟨vs,H2,I2,r,q2⟩=>⟨I2.kIn,run_fnS (us:=.ref a::us) (vs:=.ref a::vs) F hr hb (hx σ) I2 (.cons rfl r) q2⟩) hst hpl)
theorem zau {pl:Sem Bool} (ho:PE X o ta) (c:Cls X.K C) (hm:Meth X.K C m f) (F:FnOk X.prog X.w X.K X.mg X.base CX k f fd ps sp) (hr:Room k X.A) (hb:Binds X.K fd ps []) (hx:∀ σ,PassesAt CX X σ (E σ))
  (ht:eval (.Call (.Attribute o m apos) [] [] pos) X.env=(do
    let ov <- eval o X.env
    standAt apos.atName
    let (g,first) <- holding [ov] (getMethod ov m pl)
    callWith pos g first (backTo pos (starEach [] X.env)) (backToKw pos (keywordEach [] X.env))):=by rfl) :
  PE X (.Call (.Attribute o m apos) [] [] pos) (z3b C m sp E ta tNil):=by
 refine ⟨fun pins s σ H Q I h=>PySem.W.methodCall_KW (pl:=pl) (thn (ho.run pins s σ H _ I h) fun u s1 ⟨y,H1,I1,ry,a,dx,fs,ey,ea,l,q⟩=>?_) ht⟩;subst ey;cases (show u=Value.ref a from ry);exact getmeth_ok I1 ea c hm l (PySem.W.callWith_K0 (first:=[.ref a]) I1.kIn hm.kp (run_fnS (us:=[.ref a]) (vs:=[.ref a]) F hr hb (hx σ) I1 (.cons rfl .nil) q))
theorem zbh (M:Mk X.K C f) (F:FnOk X.prog X.w X.K X.mg X.base CX k f fd ps sp) (hr:Room (k+1) X.A) (hg:Gl X x) (hm:X.mg x=some (.ref C)) (hb:Binds X.K fd ps []) (hx:∀ σ,PassesAt CX X σ (E σ))
  (ha:PA X (e::es) t) (hdb:(x == ("__debug__":Str))=false:=by decide) (he:starEach (e::es) X.env=(false,eval e X.env)::starEach es X.env:=by rfl) (hpl:(backTo pos (starEach es X.env)).any (·.1)=false:=by rfl) :
  PE X (.Call (.Name x p) (e::es) [] pos) (zbc C sp E t):=by
 refine ⟨fun pins s σ H Q I h=>wpAny_Call_Name_kw (ld_glob I hg hm ?_ hdb)⟩;refine PySem.W.callWith_K (h₀:=X.base) I.ok.mod.kin M.kp (thn (ha.run pos pins s σ H _ I h) fun us s1 ⟨vs,H1,I1,r,q⟩=>⟨I1.kIn,?_⟩) he hpl;have hq:=q (s1.heap.objs.size+1) s1.heap.objs.size (I1.hok.fresh (Nat.le_succ _)) (I1.hok.fresh (Yc _)) (Nat.ne_of_lt (Nat.lt_succ_self _));have J:=Inv.made (C:=C) I1;have r2:Vals (V.ref (s1.heap.objs.size+1)::vs) (Value.ref (s1.heap.objs.size+1)::us):=.cons rfl r;have hl:(Value.ref (s1.heap.objs.size+1)::us).length=ps.length:=by rw [<- r2.length]; exact F.len _ _ _ _ hq
 have b:=hb _ (Value.ref (s1.heap.objs.size+1)::us) J.kIn (by rw [List.append_nil]; exact hl);rw [List.append_nil] at b;refine wpAny_call (make_map (f:=f) I1.kIn M.makes M.init (beq_iff_eq.mp M.fn) (codeAny_mono (F.run _ X.stack _ _ ⟨Value.ref (s1.heap.objs.size+1)::us,[]⟩ (Value.ref (s1.heap.objs.size+1)::us) _ _ (E σ) (hr.make C us [])
  (J.env0.make C us []) b r2 hq) fun r s' hq'=>?_))
 match r,hq' with
 | .error er,hq'=>exact hx σ pins _ _ er s' J hq'
 | .ok (.ret u),hq' =>
  obtain ⟨v,H',J3,rv,ev,q3⟩:=J.after hq';subst ev;exact ⟨rv,⟨V.ref (s1.heap.objs.size+1),H',J3,rfl,q3⟩⟩
 | .ok .next,hq'=>exact hq'.elim
 | .ok .brk,hq'=>exact hq'.elim
 | .ok .cont,hq'=>exact hq'.elim
end
structure GotM (P:Program) (w:World) (K:Qn) (mg:Str->Option Value) (base:Heap) (C:Addr) (m:Str) (ps:List Str) (k:Nat) (sp:Sp):Prop where
 ex:∃ (f:Addr) (fd:FuncData),FnOk P w K mg base CX0 k f fd ps sp/\Meth K C m f/\Binds K fd ps []/\Cls K C
structure z2e (P:Program) (w:World) (K:Qn) (mg:Str->Option Value) (base:Heap) (C:Addr) (m:Str) (ps:List Str) (k:Nat) (sp:Sp):Prop where
 ex:∃ (f:Addr) (fd:FuncData),FnOk P w K mg base (L2.CX P w) k f fd ps sp/\Meth K C m f/\Binds K fd ps []/\Cls K C
structure GotI (P:Program) (w:World) (K:Qn) (mg:Str->Option Value) (base:Heap) (x:Str) (C:Addr) (ps:List Str) (k:Nat) (sp:Sp):Prop where
 ex:∃ (f:Addr) (fd:FuncData),FnOk P w K mg base (L2.CX P w) k f fd ps sp/\Mk K C f/\Binds K fd ps []/\mg x=some (.ref C)
section
variable {X:Cx} {C:Addr} {x m:Str} {ps:List Str} {k:Nat} {sp:Sp} {e o:Expr} {es:List Expr} {ta:TE} {t:TA} {p pos apos:Pos} {pl:Sem Bool}
theorem z4o (G:GotM X.prog X.w X.K X.mg X.base C m ps k sp) (hr:Room k X.A) (ho:PE X o ta)
  (ht:eval (.Call (.Attribute o m apos) [] [] pos) X.env=(do
    let ov <- eval o X.env
    standAt apos.atName
    let (g,first) <- holding [ov] (getMethod ov m pl)
    callWith pos g first (backTo pos (starEach [] X.env)) (backToKw pos (keywordEach [] X.env))):=by rfl) :
  PE X (.Call (.Attribute o m apos) [] [] pos) (z3b C m sp (fun _=>E0) ta tNil):=by
 obtain ⟨f,fd,h1,h2,h3,h4⟩:=G.ex;exact zau ho h4 h2 h1 hr h3 (fun σ pins H s e s' I c=>pass0 pins σ H s e s' I c) ht
theorem zbu (G:z2e X.prog X.w X.K X.mg X.base C m ps k sp) (hr:Room k X.A) (ho:PE X o ta) (ha:PA X (e::es) t)
  (hst:starEach (e::es) X.env=(false,eval e X.env)::starEach es X.env:=by rfl) (hpl:(backTo pos (starEach es X.env)).any (·.1)=false:=by rfl)
  (ht:eval (.Call (.Attribute o m apos) (e::es) [] pos) X.env=(do
    let ov <- eval o X.env
    standAt apos.atName
    let (g,first) <- holding [ov] (getMethod ov m pl)
    callWith pos g first (backTo pos (starEach (e::es) X.env)) (backToKw pos (keywordEach [] X.env))):=by rfl) :
  PE X (.Call (.Attribute o m apos) (e::es) [] pos) (z3b C m sp (fun _=>E0) ta t):=by
 obtain ⟨f,fd,h1,h2,h3,h4⟩:=G.ex;exact z8t ho h4 h2 h1 hr h3 (fun σ pins H s e s' I c=>passL pins σ H s e s' I c) ha hst hpl ht
theorem z4l {W:WX} (G:z2e X.prog X.w X.K X.mg X.base C m ps k sp) (hr:Room k X.A) (tk:Takes X W) (ho:PE X o ta) (ha:PA X (e::es) t)
  (hst:starEach (e::es) X.env=(false,eval e X.env)::starEach es X.env:=by rfl) (hpl:(backTo pos (starEach es X.env)).any (·.1)=false:=by rfl)
  (ht:eval (.Call (.Attribute o m apos) (e::es) [] pos) X.env=(do
    let ov <- eval o X.env
    standAt apos.atName
    let (g,first) <- holding [ov] (getMethod ov m pl)
    callWith pos g first (backTo pos (starEach (e::es) X.env)) (backToKw pos (keywordEach [] X.env))):=by rfl) :
  PE X (.Call (.Attribute o m apos) (e::es) [] pos) (z3b C m sp (WE W) ta t):=by
 obtain ⟨f,fd,h1,h2,h3,h4⟩:=G.ex;exact z8t ho h4 h2 h1 hr h3 (fun σ=>passAt tk σ) ha hst hpl ht
theorem zdd (G:GotI X.prog X.w X.K X.mg X.base x C ps k sp) (hr:Room (k+1) X.A) (hg:Gl X x) (ha:PA X (e::es) t) (hdb:(x == ("__debug__":Str))=false:=by decide)
  (he:starEach (e::es) X.env=(false,eval e X.env)::starEach es X.env:=by rfl) (hpl:(backTo pos (starEach es X.env)).any (·.1)=false:=by rfl) :
  PE X (.Call (.Name x p) (e::es) [] pos) (zbc C sp (fun _=>E0) t):=by
 obtain ⟨f,fd,h1,h2,h3,h4⟩:=G.ex;exact zbh h2 h1 hr hg h4 h3 (fun σ pins H s e s' I c=>passL pins σ H s e s' I c) ha hdb he hpl
end
def z74 (K:Qn) (C:Addr):Sp:=fun vs H Q _=>∃ (a:Addr) (y:V),vs=[.ref a,y]/\OexC K C/\PySem.W.findIn K (.ref C) "kind"=some none/\H a=some (exo a C none)/\∀ dx,H dx=none->dx ≠ a->Q .non (upd (upd H dx (exd dx [("kind",y)])) a (exo a C (some dx)))
structure OwnI (P:Program) (w:World) (K:Qn) (mg:Str->Option Value) (base:Heap) (x:Str) (C:Addr) (k:Nat):Prop where
 gC:mg x=some (.ref C)
 T:OexC K C
 no:PySem.W.findIn K (.ref C) "kind"=some none
 ex:∃ (f:Addr) (fd:FuncData),PySem.W.findIn K (.ref C) "__init__"=some (some (.ref f))/\PySem.W.typeIn K (.ref f)=some (.type "function")/\FnOk P w K mg base CX0 k f fd ["self","kind"] (z74 K C)/\Binds K fd ["self","kind"] []
def z9n (K:Qn) (C:Addr):Bool:=(match K.lookup C with
 | some ⟨.type "type",_,.cls cd,sl⟩=>(match cd.mro,sl.toList with
  | .ref D::bm,[_,_,_,_,some (.builtin n),_]=>decide (D=C)&&(n == "ValueError.__new__"&&(!cd.hasDel&&(cd.hasDict&&PySem.HandSPX.refsVE bm)))
  | _,_=>false)
 | _=>false)&&(He.eqO (PySem.W.findIn K (.ref C) "__setattr__") (some (some (.builtin "object.__setattr__")))&&(decide (PySem.W.subIn K (.ref C) (.type "BaseException")=some true)&&(decide (PySem.W.typeIn K (.ref C)=some (.type "type"))&&PySem.W.keepIn K (.ref C))))
theorem z8l {K:Qn} {C:Addr} (h:z9n K C=true):OexC K C:=by
 obtain ⟨h1,h⟩:=He.ba h;obtain ⟨h2,h⟩:=He.ba h;obtain ⟨h3,h⟩:=He.ba h;obtain ⟨h4,h5⟩:=He.ba h;refine ⟨?_,He.eqO_ok h2,of_decide_eq_true h3,of_decide_eq_true h4,h5⟩
 split at h1
 ·rename_i dd cd sl ho
  split at h1
  ·rename_i D bm k0 k1 k2 k3 n k5 hm hs;obtain ⟨e1,h1⟩:=He.ba h1;obtain ⟨e2,h1⟩:=He.ba h1;obtain ⟨e3,h1⟩:=He.ba h1;obtain ⟨e4,e5⟩:=He.ba h1;have e1:=of_decide_eq_true e1;have e2:=beq_iff_eq.mp e2;obtain ⟨nm,bs,mro,ns,qn,hd,sn,sb,ab,col,del⟩:=cd;simp only at hm e3 e4;subst e1 e2 hm e4;have e3:del=false:=by simpa using e3
   subst e3;obtain ⟨sl⟩:=sl;simp only at hs;subst hs;exact ⟨nm,qn,ns,bs,bm,sn,sb,ab,col,dd,k0,k1,k2,k3,k5,ho,e5⟩
  ·cases h1
 ·cases h1
theorem _root_.L2.PE.wide {X:Cx} {e:Expr} {te:TE} (h:PE X e te):PE X e (fun σ H Q=>∃ Q':VK,te σ H Q'/\∀ v H',Q' v H'->Q v H') :=
 ⟨fun pins s σ H Q I ⟨Q',h1,h2⟩=>thn (h.run pins s σ H Q' I h1) fun v s1 ⟨y,H1,I1,r,q⟩=>⟨y,H1,I1,r,h2 _ _ q⟩⟩
section
variable {X:Cx} {C:Addr} {x:Str} {k:Nat} {e:Expr} {te:TE} {p pos:Pos}
def zhn (C:Addr) (te:TE):L2.St->Hp->XK->Prop:=fun σ H Q=>te σ H fun y H1=>∀ d,H1 d=none->Q (.ref C) (some d) (upd H1 d (.xd [("kind",y)]))
theorem z80 (O:OwnI X.prog X.w X.K X.mg X.base x C k) (hr:Room (k+1) X.A) (hg:Gl X x) (he:PE X e te) (hdb:(x == ("__debug__":Str))=false:=by decide)
  (hs:starEach [e] X.env=(false,eval e X.env)::starEach [] X.env:=by rfl) (hpl:(backTo pos (starEach [] X.env)).any (·.1)=false:=by rfl):PMk X (.Call (.Name x p) [e] [] pos) (zhn C te):=by
 obtain ⟨f,fd,h1,h2,h3,h4⟩:=O.ex;have hw:=pmk_oex (p:=p) O.T h1 h2 h3 hr h4 .nil pass0 hg O.gC (pa_cons (hs:=hs) he.wide Qb) hdb hs hpl;intro pins s σ H Q I h;refine hw pins s σ H Q I ⟨_,h,fun y H1 q=>?_⟩;refine ⟨by simp,fun a ha=>⟨a,y,rfl,O.T,O.no,Qt,fun dx hd ne=>⟨rfl,dx,[("kind",y)],Qt,?_,?_,?_⟩⟩⟩
 ·rw [upd_ne ne,Qt]
 ·rw [upd_ne ne] at hd; exact hd
 ·have e:upd (del (upd (upd (upd H1 a (exo a C none)) dx (exd dx [("kind",y)])) a (exo a C (some dx))) a) dx (.xd [("kind",y)])=upd H1 dx (.xd [("kind",y)]):=by
   funext b
   by_cases h1:b=dx
   ·subst h1; rw [Qt,Qt]
   ·rw [upd_ne h1,upd_ne h1];by_cases h2:b=a
    ·subst h2; rw [del_same,ha]
    ·rw [del_ne h2,upd_ne h2,upd_ne h1,upd_ne h2]
  rw [e];rw [upd_ne ne] at hd;exact q dx hd
end
abbrev Ru:=Gr × Gr
def Ru.enc (r:Ru):PyData:=.tuple [r.1.enc,r.2.enc]
def Ru.within (r:Ru):List (Tr × Int):=r.1.within++r.2.within
structure Kd where
 n:Str
 w:Bool
 rs:List Ru
abbrev Bk:=List Kd
abbrev Bk.names (b:Bk):List Str:=b.map (·.n)
def Kd.rowE (k:Kd):PyData:=.tuple (k.rs.map Ru.enc)
def Bk.get (b:Bk) (n:Str):Option Kd:=b.find? fun k=>decide (k.n=n)
def RuOk (r:Ru):Prop:=r.1.Ok 1000000001/\r.2.Ok 1000000001/\r.1.parts+r.2.parts<=4
def KdOk (ns:List Str) (k:Kd):Prop:=z03 k.n/\k.rs.length<=4/\∀ r ∈ k.rs,RuOk r/\∀ p ∈ Ru.within r,p.1.1 ∈ ns
structure Bk.Ok (b:Bk):Prop where
 pos:1<=b.length
 len:b.length<=8
 nd:b.names.Nodup
 kd:∀ k ∈ b,KdOk b.names k
theorem Ru.noList_enc (r:Ru):z09 (Ru.enc r)=true:=by simp [Ru.enc,z09,z0c,Gr.noList_enc]
theorem Kd.noList_rowE (k:Kd):z09 k.rowE=true:=by
 unfold Kd.rowE z09
 induction k.rs with
 | nil=>rfl
 | cons r l ih=>rw [List.map_cons,z0c,Ru.noList_enc,ih]; rfl
theorem Bk.get_some {b:Bk} {n:Str} {k:Kd} (h:b.get n=some k):k ∈ b/\k.n=n :=
 ⟨List.mem_of_find?_eq_some h,of_decide_eq_true (List.find?_some (p:=fun k:Kd=>decide (k.n=n)) h)⟩
theorem Bk.get_none {b:Bk} {n:Str} (h:b.get n=none):n ∉ b.names:=fun z=>by
 obtain ⟨k,hk,e⟩:=Qx z;have:=List.find?_eq_none.mp h k hk;exact this (Ya e)
theorem Bk.get_of {b:Bk} {n:Str} (h:n ∈ b.names):∃ k,b.get n=some k:=by
 cases e:b.get n with
 | none=>exact absurd h (Bk.get_none e)
 | some k=>exact ⟨k,rfl⟩
theorem Bk.get_self {b:Bk} (nd:b.names.Nodup) {k:Kd} (hk:k ∈ b):b.get k.n=some k:=by
 induction b with
 | nil=>cases hk
 | cons x r ih =>
  have nd':(x.n::Bk.names r).Nodup:=nd;unfold Bk.get;rcases Qv hk with e | e
  ·subst e; rw [List.find?_cons_of_pos (by simp)]
  ·have:¬ x.n=k.n:=fun z=>(List.nodup_cons.mp nd').1 (by rw [z]; exact List.mem_map.mpr ⟨k,e,rfl⟩);rw [List.find?_cons_of_neg (by simpa using this)];exact ih (List.nodup_cons.mp nd').2 e
def Bk.rowKV (b:Bk) (us:List V):List (Key × V):=List.zipWith (fun (k:Kd) (u:V)=>(Sum.inr k.n,u)) b us
def Bk.spKV (b:Bk):List (Key × V):=b.map fun k=>(Sum.inr k.n,V.bl k.w)
theorem Bk.spKV_val (b:Bk) (n:Str):valV b.spKV (Sum.inr n)=(b.get n).map fun k=>V.bl k.w:=by
 induction b with
 | nil=>rfl
 | cons x r ih =>
  by_cases e:x.n=n
  ·subst e;rw [show Bk.spKV (x::r)=(Sum.inr x.n,V.bl x.w)::Bk.spKV r from rfl,valV_pos rfl];simp [Bk.get]
  ·rw [show Bk.spKV (x::r)=(Sum.inr x.n,V.bl x.w)::Bk.spKV r from rfl,valV_neg (by simpa using e),ih];simp [Bk.get,e]
theorem Bk.rowKV_val {K:Qn} {H:Hp} (n:Str):∀ {b:Bk} {us:List V},Bears K H Kd.rowE us b->∀ {k:Kd},b.get n=some k->∃ u,valV (b.rowKV us) (Sum.inr n)=some u/\Dp K H u k.rowE
 | [],_,_,k,h=>by cases h
 | x::r,_,.cons (v:=u) (vs:=us) h0 h1,k,h=>by
  have e0:Bk.rowKV (x::r) (u::us)=(Sum.inr x.n,u)::Bk.rowKV r us:=rfl;by_cases e:x.n=n
  ·subst e;have:x=k:=by simpa [Bk.get] using h
   subst this;exact ⟨u,by rw [e0,valV_pos rfl],h0⟩
  ·have h':Bk.get r n=some k:=by simpa [Bk.get,e] using h
   obtain ⟨v,a,c⟩:=Bk.rowKV_val n h1 h';exact ⟨v,by rw [e0,valV_neg (by simpa using e)]; exact a,c⟩
abbrev bkF (d1 d2:Addr):List (Str × V):=[("spread_by_name",.ref d1),("rows_by_name",.ref d2)]
def BkA (K:Qn) (C:Addr) (H:Hp) (v:V) (b:Bk):Prop:=∃ (a dx d1 d2:Addr) (us:List V),v=.ref a/\H a=some (.ins C dx (bkF d1 d2))/\H d1=some (.dK b.spKV)/\H d2=some (.dK (b.rowKV us))/\Bears K H Kd.rowE us b
def Lsts (H:Hp) (ps:List Addr):Prop:=∀ p ∈ ps,H p=none\/∃ xs,H p=some (.lst xs)
theorem Lsts.nil {H:Hp}:Lsts H []:=fun _ h=>nomatch h
theorem Lsts.notin {H:Hp} {ps:List Addr} (h:Lsts H ps) {a:Addr} {o:HO} (e:H a=some o) (n:∀ xs,o ≠ .lst xs):a ∉ ps:=fun z=>by
 rcases h a z with q | ⟨xs,q⟩
 ·rw [e] at q; cases q
 ·rw [e] at q; exact n xs (Yd q)
section
variable {K:Qn} {C:Addr} {H H':Hp} {v:V} {b:Bk} {ps:List Addr}
theorem BkA.sb (h:BkA K C H v b) (e:SB ps H H') (hp:Lsts H ps):BkA K C H' v b:=by
 obtain ⟨a,dx,d1,d2,us,rfl,h1,h2,h3,h4⟩:=h;exact ⟨a,dx,d1,d2,us,rfl,e.keep _ _ h1 (hp.notin h1 fun _ z=>nomatch z),e.keep _ _ h2 (hp.notin h2 fun _ z=>nomatch z),e.keep _ _ h3 (hp.notin h3 fun _ z=>nomatch z),h4.sb e Kd.noList_rowE⟩
theorem BkA.sb0 (h:BkA K C H v b) (e:SB [] H H'):BkA K C H' v b:=h.sb e Lsts.nil
theorem BkA.at (h:BkA K C H v b):∃ a dx d1 d2,v=.ref a/\H a=some (.ins C dx (bkF d1 d2)):=by
 obtain ⟨a,dx,d1,d2,us,e,h1,_⟩:=h;exact ⟨a,dx,d1,d2,e,h1⟩
end
structure ClsF (K:Qn) (C:Addr) (fs:List Str):Prop where
 c:Cls K C
 no:∀ f ∈ fs,NoAttr K C f
def z1z (K:Qn) (C:Addr):Sp:=fun vs H Q _=>∃ (v:V) (b:Bk),vs=[v]/\BkA K C H v b/\b.length<=1000/\∀ (l:Addr) (H':Hp),SB [] H H'->H l=none->H' l=some (.lst (b.names.map V.str))->Q (.ref l) H'
def z2j (N:Addr) (b:Bk) (n:Str) (H:Hp) (E:XK) (q:Kd->Prop):Prop:=(∀ k,b.get n=some k->q k)/\(b.get n=none->∀ (d:Addr) (H':Hp),SB [] H H'->H d=none->H' d=some (.xd [("kind",.str n)])->E (.ref N) (some d) H')
def z34 (K:Qn) (C N:Addr):Sp:=fun vs H Q E=>∃ (v:V) (b:Bk) (n:Str),vs=[v,.str n]/\BkA K C H v b/\b.length<=1000/\z2j N b n H E fun _=>∀ H',SB [] H H'->Q .non H'
def z1s (K:Qn) (C N:Addr):Sp:=fun vs H Q E=>∃ (v:V) (b:Bk) (n:Str),vs=[v,.str n]/\BkA K C H v b/\b.length<=1000/\z2j N b n H E fun k=>∀ H',SB [] H H'->Q (.bl k.w) H'
def z2w (K:Qn) (C N:Addr):Sp:=fun vs H Q E=>∃ (v:V) (b:Bk) (n:Str),vs=[v,.str n]/\BkA K C H v b/\b.length<=1000/\(∀ k ∈ b,k.rs.length<=1000) /\
 z2j N b n H E fun k=>∀ (l:Addr) (us:List V) (H':Hp),SB [] H H'->H l=none->H' l=some (.lst us)->Bears K H' Ru.enc us k.rs->Q (.ref l) H'
inductive KT where
 | other
 | three (d:PyData) (w:Option Bool) (rs:Option (List PyData))
def Kd.kt (k:Kd):KT:=.three (.str k.n) (some k.w) (some (k.rs.map Ru.enc))
def KTA (K:Qn) (H:Hp) (v:V):KT->Prop
 | .other=>∃ d,Tg K H v d/\∀ ds,d=.tuple ds->ds.length ≠ 3
 | .three d w rs=>∃ (t:Addr) (x y z:V),v=.ref t/\SqT K H t [x,y,z]/\Tg K H x d/\(match w with
   | some b=>y=.bl b
   | none=>∃ n,TyX K H y (.type n)/\kitB n "bool"=some false)/\(match rs with
   | some ds=>∃ (l:Addr) (zs:List V),z=.ref l/\H l=some (.lst zs)/\TgAll K H zs ds
   | none=>∃ n,TyX K H z (.type n)/\kitB n "list"=some false)
def RuD (d:PyData):Prop:=∃ r:Ru,d=Ru.enc r/\RuOk r
def z9m (d:PyData):Prop:=d.depth<=60/\wide d<=1000/\∀ a b,d=.tuple [a,b]->∀ g:Gr,a=g.enc\/b=g.enc->g.deep<=18/\g.parts<=450
def z7p:KT->Prop
 | .other=>True
 | .three d w rs=>∀ ds,rs=some ds->ds.length<=1000/\∀ x ∈ ds,z9m x
def KTKd (t:KT):Prop:=∃ k:Kd,t=k.kt/\z03 k.n/\k.rs.length<=4/\∀ r ∈ k.rs,RuOk r
def KTBk (ts:List KT):Prop:=∃ b:Bk,ts=b.map Kd.kt/\Bk.Ok b
inductive KTAll (K:Qn) (H:Hp):List V->List KT->Prop
 | nil:KTAll K H [] []
 | cons {v:V} {t:KT} {vs:List V} {ts:List KT}:KTA K H v t->KTAll K H vs ts->KTAll K H (v::vs) (t::ts)
def z4u (K:Qn):Sp:=fun vs H Q _=>∃ (v:V) (d:PyData),vs=[v]/\Tg K H v d/\z9m d/\∀ (b:Bool) (H':Hp),SB [] H H'->(b=true ↔ RuD d)->Q (.bl b) H'
def z8j (K:Qn):Sp:=fun vs H Q _=>∃ (v:V) (t:KT),vs=[v]/\KTA K H v t/\z7p t/\∀ (b:Bool) (H':Hp),SB [] H H'->(b=true ↔ KTKd t)->Q (.bl b) H'
def z30 (K:Qn):Sp:=fun vs H Q _=>∃ (v:V) (l:Addr) (r:Ru) (ns:List Str),vs=[v,.ref l]/\Dp K H v (Ru.enc r)/\RuOk r/\SqL K H l (ns.map V.str)/\ns.length<=1000/\∀ H',SB [] H H'->Q (.bl (decide (∀ p ∈ Ru.within r,p.1.1 ∈ ns))) H'
def z59 (K:Qn):Sp:=fun vs H Q _=>∃ (l:Addr) (xs:List V) (ts:List KT),vs=[.ref l]/\SqL K H l xs/\KTAll K H xs ts/\(∀ t ∈ ts,z7p t)/\ts.length<=1000/\∀ (b:Bool) (H':Hp),SB [] H H'->(b=true ↔ KTBk ts)->Q (.bl b) H'
def z47 (K:Qn) (C B:Addr):Sp:=fun vs H Q E=>∃ (x dx l:Addr) (xs:List V) (ts:List KT),vs=[.ref x,.ref l]/\H x=some (.ins C dx [])/\H dx=some (.own x)/\H l=some (.lst xs)/\KTAll K H xs ts/\(∀ t ∈ ts,z7p t)/\ts.length<=1000 /\
 (∀ b:Bk,ts=b.map Kd.kt->b.Ok->∀ H',SB [x] H H'->BkA K C H' (.ref x) b->Q .non H')/\(¬ KTBk ts->∀ H',SB [] H H'->E (.ref B) none H')
theorem z1k (n:Str) (zs:List Str):inV (.str n) (zs.map V.str)=decide (n ∈ zs):=by
 induction zs with
 | nil=>rfl
 | cons z r ih =>
  show ((z == n) || inV (.str n) (r.map V.str))=_;rw [ih];by_cases e:z=n
  ·subst e; simp
  ·have e':¬ n=z:=fun y=>e y.symm;rw [show (z == n)=false from beq_eq_false_iff_ne.mpr e,Bool.false_or];by_cases h:n ∈ r <;> simp [h,e']
theorem z1e (zs:List Str):(zs.map V.str).all flatV=true:=by simp [flatV]
theorem getK {H:Hp} {d:Addr} {kvs:List (Key × V)} {n:Str} {v:V} (h:H d=some (.dK kvs)) (e:valV kvs (Sum.inr n)=some v):DGet H d (.str n) (some v):=.inl ⟨kvs,Sum.inr n,.inl h,rfl,e.symm⟩
theorem Bk.get_isSome (b:Bk) (n:Str):decide (n ∈ b.names)=(b.get n).isSome:=by
 cases e:b.get n with
 | none=>simpa using Bk.get_none e
 | some k=>simpa using List.mem_map.mpr ⟨k,(Bk.get_some e).1,(Bk.get_some e).2⟩
section
variable {J:It} {n:Nat} {G:Hp->Prop} {Y:Nat->Hp->V->Hp->Prop}
theorem z0i (w:Walk J n G Y) {g:TG} {tt:TT} {te:TE} {vs:List Nat} {σ:L2.St} {H:Hp} {D:Addr} {Qd:Hp->Prop} (hD:H D=none) (hn:n < sizeLine) (R:Nat->List V->Hp->Prop) (h0:R 0 [] H) (hG:∀ H2,SB [] H H2->G H2)
  (st:∀ i us H2 H3,SB [D] H2 H3->R i us H2->R i us H3)
  (turn:∀ (Pv:Hp->Prop) i x H2 H' us,i < n->SB [] H H2->Y i H2 x H'->R i us H2->us.length<=i->(∀ y H5,SB [] H2 H5->R (i+1) (us++[y]) H5->∃ acc,H5 D=some (.lst acc)/\acc.length < sizeLine/\Pv (upd H5 D (.lst (acc++[y])))) ->
   (∀ H4,SB [] H2 H4->R (i+1) us H4->Pv H4)->g x (wipe σ vs) H' fun σ2 H3=>wipe σ2 vs=wipe σ vs/\tt σ2 H3 fun b H4 =>
    if b=true then te σ2 H4 fun y H5=>∃ acc,H5 D=some (.lst acc)/\acc.length < sizeLine/\Pv (upd H5 D (.lst (acc++[y]))) else Pv H4)
  (done:∀ us H2,SB [] H H2->H2 D=some (.lst us)->R n us H2->us.length<=n->Qd H2) :
  ∃ W:Nat->Nat->Hp->Prop,(∃ m,W 0 m (upd H D (.lst [])))/\∀ i m H,W i m H ->
   (J.stop i H/\Qd H)\/(J.go i H/\∃ Nx:Hp->Prop,(∀ H',Nx H'->∃ m',m' < m/\W (i+1) m' H')/\∀ x H',J.yld i H x H'->g x (wipe σ vs) H' fun σ2 H2=>wipe σ2 vs=wipe σ vs/\tt σ2 H2 fun b H3 =>
    if b=true then te σ2 H3 fun y H4=>∃ acc,H4 D=some (.lst acc)/\acc.length < sizeLine/\Nx (upd H4 D (.lst (acc++[y]))) else Nx H3):=by
 refine lc_it w (fun i H2=>SB [D] H H2/\∃ us,H2 D=some (.lst us)/\R i us H2/\us.length<=i) ⟨SB.new hD _,[],Qt,st _ _ _ _ (SB.new hD _) h0,Yc _⟩ (fun i H2 _ h=>hG H2 (h.1.drop hD)) (fun i x H2 H' hi h y=>?_) (fun H2 h=>?_)
 ·obtain ⟨s2,us,hD2,hR,hl⟩:=h;refine turn _ i x H2 H' us hi (s2.drop hD) y hR hl (fun y H5 s5 r5=>?_) (fun H4 s4 r4=>⟨s2.trans s4.nil,us,s4.keep _ _ hD2 nmn,r4,by omega⟩);have hD5:=s5.keep _ _ hD2 nmn;refine ⟨us,hD5,by omega,(s2.trans s5.nil).trans (SB.set hD5 (by simp) _),_,Qt,st _ _ _ _ (SB.set hD5 (by simp) _) r5,?_⟩;rw [Yf,Yi]; omega
 ·obtain ⟨s2,us,hD2,hR,hl⟩:=h;exact done us H2 (s2.drop hD) hD2 hR hl
end
theorem z7k {C:Int}:∀ {g:Gr},z0e g.enc=true->(∀ p ∈ g.within,p.2 < C)->g.Ok C:=by
 have key:∀ (g:Gr),(∀ p ∈ g.within,p.2 < C)->grPs g.encs=true->(z2m (g.encs.map exp0)=true->g.Ok C):=by
  intro g
  induction g with
  | nil=>intro _ _ _; trivial
  | cons k g m r ihg ihr =>
   intro hb hps hri;have hb1:∀ p ∈ g.within,p.2 < C:=fun p hp=>hb p (mcm _ (mal _ hp));have hb2:∀ p ∈ r.within,p.2 < C:=fun p hp=>hb p (mcm _ (mar _ hp));have e:(Gr.cons k g m r).encs=Gr.pEnc ((k,g),m)::r.encs:=rfl;rw [e,grPs,Bool.and_eq_true] at hps;rw [e,List.map_cons] at hri;have hp:grP (.tuple [.tuple [.str k,.tuple g.encs],.int m])=true:=hps.1;rw [grP,grP2,Bool.and_eq_true,z0n,trD2,Bool.and_eq_true,trD3,Bool.and_eq_true,z0e,Bool.and_eq_true,z11,Bool.and_eq_true] at hp;obtain ⟨⟨hn,⟨hgp,hgr⟩,_⟩,hmm,_⟩:=hp;have hname:z03 k:=by
    obtain ⟨z,ez,hz⟩:=z3a hn;cases ez; exact hz
   have hri2:z2m (r.encs.map exp0)=true:=by
    cases hre:r.encs with
    | nil=>rfl
    | cons d ds =>
     rw [hre,List.map_cons] at hri;have:(dataLt (exp0 (Gr.pEnc ((k,g),m))) (exp0 d)::ltsD (exp0 d::ds.map exp0)).all id=true:=hri;rw [List.all_cons,Bool.and_eq_true] at this;rw [List.map_cons]; exact this.2
   have hro:=ihr hb2 hps.2 hri2;refine ⟨hname,ihg hb1 hgp hgr,of_decide_eq_true hmm,hb _ (mcs ..),hro,fun p hpm=>?_⟩;cases r with
   | nil=>cases hpm
   | cons k2 g2 m2 r2 =>
    have h12:dataLt (Gr.tEnc (k,g)) (Gr.tEnc (k2,g2))=true:=by
     have:(dataLt (Gr.tEnc (k,g)) (Gr.tEnc (k2,g2))::ltsD (Gr.tEnc (k2,g2)::r2.encs.map exp0)).all id=true:=hri;rw [List.all_cons,Bool.and_eq_true] at this;exact this.1
    rcases Qv hpm with h | h
    ·subst h; exact h12
    ·exact z31 h12 (hro.2.2.2.2.2 p h)
 intro g hg hb;rw [Gr.enc,z0e,Bool.and_eq_true] at hg;exact key g hb hg.1 hg.2
theorem z1q {C:Int}:∀ {g:Gr},g.Ok C->∀ p ∈ g.within,z03 p.1.1/\p.1.2.Ok C/\1<=p.2/\p.2 < C
 | .nil,_,p,h=>by cases h
 | .cons k g m r,⟨h0,h1,h2,h3,h4,_⟩,p,h=>by
  rcases Qv h with h | h
  ·subst h; exact ⟨h0,h1,h2,h3⟩
  ·rcases Qw h with h | h
   ·exact z1q h1 p h
   ·exact z1q h4 p h
theorem Gr.enc_inj {g h:Gr} (e:g.enc=h.enc):g=h:=by
 have:=Gr.eqv_enc g h;rw [e,Gr.eqv_enc h h,Ya rfl] at this;exact of_decide_eq_true this.symm
theorem zdr {g h:Gr} (hg:z0e g.enc=true) (hh:z0e h.enc=true):RuD (.tuple [g.enc,h.enc]) ↔ g.parts+h.parts<=4/\∀ p ∈ g.within++h.within,p.2<=1000000000:=by
 constructor
 ·rintro ⟨r,e,h1,h2,h3⟩
  have e':PyData.tuple [g.enc,h.enc]=.tuple [r.1.enc,r.2.enc]:=e
  injection e' with e'
  injection e' with a e'
  injection e' with b _
  rw [Gr.enc_inj a,Gr.enc_inj b];refine ⟨h3,fun p hp=>?_⟩;rcases Qw hp with hp | hp
  ·have:=(z1q h1 p hp).2.2.2; omega
  ·have:=(z1q h2 p hp).2.2.2; omega
 ·rintro ⟨h1,h2⟩
  exact ⟨(g,h),rfl,z7k hg fun p hp=>by have:=h2 p (mal _ hp); omega,z7k hh fun p hp=>by have:=h2 p (mar _ hp); omega,h1⟩
theorem z9b {d:PyData} (h:RuD d):∃ g k:Gr,d=.tuple [g.enc,k.enc]/\z0e g.enc=true/\z0e k.enc=true:=by
 obtain ⟨r,e,h1,h2,_⟩:=h;exact ⟨r.1,r.2,e,z2c h1,z2c h2⟩
theorem z07:∀ g:Gr,g.deep<=g.parts
 | .nil=>Yc _
 | .cons k g m r=>by
  have h1:=z07 g;have h2:=z07 r;show max (1+g.deep) r.deep<=1+g.parts+r.parts;omega
theorem z9j:∀ {ds:List PyData},(∀ x ∈ ds,RuD x)->∃ rs:List Ru,ds=rs.map Ru.enc/\∀ r ∈ rs,RuOk r
 | [],_=>⟨[],rfl,fun _ h=>nomatch h⟩
 | d::ds,h=>by
  obtain ⟨r,e,hr⟩:=h d (mcs ..);obtain ⟨rs,e2,hrs⟩:=z9j fun x hx=>h x (mcm _ hx);refine ⟨r::rs,by rw [e,e2]; rfl,fun x hx=>?_⟩;rcases Qv hx with hx | hx
  ·rw [hx]; exact hr
  ·exact hrs x hx
theorem zez {K:Qn} {H:Hp} {a:Addr} {xs:List V} (h:SqL K H a xs):TyX K H (.ref a) (.type "list"):=by
 rcases h with (h | ⟨o,h⟩) | ⟨o,its,n,h,c,_⟩
 ·exact .base (.lst h)
 ·exact .base (.frz h)
 ·exact .kList h c
section
variable {K:Qn} {H H':Hp}
theorem zah (e:SB [] H H'):∀ {t:KT} {v:V},KTA K H v t->KTA K H' v t
 | .other,v,⟨d,h1,h2⟩=>⟨d,z1p e h1,h2⟩
 | .three d w rs,v,⟨t,x,y,z,e0,h1,h2,h3,h4⟩=>by
  refine ⟨t,x,y,z,e0,e.sqT h1,z1p e h2,?_,?_⟩
  ·cases w with
   | some b=>exact h3
   | none =>
    obtain ⟨n,a,b⟩:=h3;exact ⟨n,z2i e (fun _ _=>nmn) a,b⟩
  ·cases rs with
   | some ds =>
    obtain ⟨l,zs,e1,h5,h6⟩:=h4;exact ⟨l,zs,e1,e.keep _ _ h5 nmn,z4p e h6⟩
   | none =>
    obtain ⟨n,a,b⟩:=h4;exact ⟨n,z2i e (fun _ _=>nmn) a,b⟩
theorem KTAll.sb (e:SB [] H H'):∀ {vs:List V} {ts:List KT},KTAll K H vs ts->KTAll K H' vs ts
 | _,_,.nil=>.nil
 | _,_,.cons h t=>.cons (zah e h) (KTAll.sb e t)
theorem KTAll.length:∀ {vs:List V} {ts:List KT},KTAll K H vs ts->vs.length=ts.length
 | _,_,.nil=>rfl
 | _,_,.cons h t=>by rw [Yk,Yk,KTAll.length t]
theorem KTAll.get:∀ {vs:List V} {ts:List KT} {i:Nat} {v:V},KTAll K H vs ts->vs[i]?=some v->∃ t,ts[i]?=some t/\KTA K H v t
 | _,_,i,v,.nil,h=>by simp at h
 | _,_,0,v,.cons h t,e=>by simp at e; subst e; exact ⟨_,rfl,h⟩
 | _,_,i+1,v,.cons h t,e=>by
  simp at e;obtain ⟨t',e',h'⟩:=KTAll.get (i:=i) t e;exact ⟨t',by simpa using e',h'⟩
theorem zba:∀ {ts:List KT},(∀ t ∈ ts,KTKd t)->∃ b:Bk,ts=b.map Kd.kt/\∀ k ∈ b,z03 k.n/\k.rs.length<=4/\∀ r ∈ k.rs,RuOk r
 | [],_=>⟨[],rfl,fun _ h=>nomatch h⟩
 | t::ts,h=>by
  obtain ⟨k,e,hk⟩:=h t (mcs ..);obtain ⟨b,e2,hb⟩:=zba fun x hx=>h x (mcm _ hx);refine ⟨k::b,by rw [e,e2]; rfl,fun x hx=>?_⟩;rcases Qv hx with hx | hx
  ·rw [hx]; exact hk
  ·exact hb x hx
theorem zfi {k j:Kd} (e:k.kt=j.kt):k=j:=by
 obtain ⟨n,w,rs⟩:=k;obtain ⟨n2,w2,rs2⟩:=j
 injection e with e1 e2 e3
 injection e1 with e1
 injection e2 with e2
 injection e3 with e3
 have e3:rs.map Ru.enc=rs2.map Ru.enc:=e3;have e1:n=n2:=e1;have e2:w=w2:=e2;subst e1 e2;have:rs=rs2:=by
  refine (List.map_inj_right ?_).mp e3;intro x y h;have h':PyData.tuple [x.1.enc,x.2.enc]=.tuple [y.1.enc,y.2.enc]:=h
  injection h' with h'
  injection h' with a h'
  injection h' with b _
  exact Prod.ext (Gr.enc_inj a) (Gr.enc_inj b)
 rw [this]
theorem z6z {b c:Bk} (e:b.map Kd.kt=c.map Kd.kt):b=c:=(List.map_inj_right (fun _ _=>zfi)).mp e
theorem z4i:∀ {rs:List Ru} {zs:List V},TgAll K H zs (rs.map Ru.enc)->Bears K H Ru.enc zs rs
 | [],_,.nil=>.nil
 | r::rs,_,.cons h t=>by
  refine .cons ?_ (z4i t);cases (h:Tg K H _ (.tuple [r.1.enc,r.2.enc])) with
  | tup hs ha =>
   cases ha with
   | cons h1 ha =>
   cases ha with
   | cons h2 ha =>
   cases ha;cases h1 with
   | tup a1 b1 =>
   cases h2 with
   | tup a2 b2=>exact .tup hs (.cons (.tup a1 (z2t r.1 b1)) (.cons (.tup a2 (z2t r.2 b2)) .nil))
def KdA (K:Qn) (H:Hp) (bad:List Addr) (v:V) (k:Kd):Prop:=∃ (t l:Addr) (zs:List V),v=.ref t/\SqT K H t [.str k.n,.bl k.w,.ref l]/\H l=some (.lst zs)/\Bears K H Ru.enc zs k.rs/\l ∉ bad
theorem zea {k:Kd} {v:V} (h:KTA K H v k.kt):KdA K H [] v k:=by
 obtain ⟨t,x,y,z,e0,h1,h2,h3,l,zs,rfl,h5,h6⟩:=h;have h3:y=.bl k.w:=h3;subst h3;cases h2;exact ⟨t,l,zs,e0,h1,h5,z4i h6,nmn⟩
def NoLst (H:Hp) (bad ps:List Addr):Prop:=∀ p ∈ ps,p ∈ bad\/∀ xs,H p ≠ some (.lst xs)
theorem NoLst.nil {bad:List Addr}:NoLst H bad []:=fun _ z=>nomatch z
theorem NoLst.self {bad:List Addr}:NoLst H bad bad:=fun _ z=>.inl z
theorem KdA.sb {k:Kd} {v:V} {ps bad:List Addr} (h:KdA K H bad v k) (e:SB ps H H') (n:NoLst H bad ps):KdA K H' bad v k:=by
 obtain ⟨t,l,zs,e0,h1,h2,h3,h4⟩:=h;exact ⟨t,l,zs,e0,e.sqT h1,e.keep _ _ h2 fun z=>(n _ z).elim h4 fun y=>y _ h2,h3.sb e Ru.noList_enc,h4⟩
inductive KdAll (K:Qn) (H:Hp) (bad:List Addr):List V->Bk->Prop
 | nil:KdAll K H bad [] []
 | cons {v:V} {k:Kd} {vs:List V} {b:Bk}:KdA K H bad v k->KdAll K H bad vs b->KdAll K H bad (v::vs) (k::b)
theorem KdAll.sb {ps bad:List Addr} (e:SB ps H H') (n:NoLst H bad ps):∀ {vs:List V} {b:Bk},KdAll K H bad vs b->KdAll K H' bad vs b
 | _,_,.nil=>.nil
 | _,_,.cons h t=>.cons (h.sb e n) (KdAll.sb e n t)
theorem KdAll.less {bad bad':List Addr} (hb:∀ x ∈ bad',x ∈ bad):∀ {vs:List V} {b:Bk},KdAll K H bad vs b->KdAll K H bad' vs b
 | _,_,.nil=>.nil
 | _,_,.cons ⟨t,l,zs,h1,h2,h3,h4,h5⟩ r=>.cons ⟨t,l,zs,h1,h2,h3,h4,fun z=>h5 (hb l z)⟩ (KdAll.less hb r)
theorem KdAll.append {bad:List Addr}:∀ {xs ys:List V} {bs cs:Bk},KdAll K H bad xs bs->KdAll K H bad ys cs->KdAll K H bad (xs++ys) (bs++cs)
 | _,_,_,_,.nil,h=>h
 | _,_,_,_,.cons a b,h=>.cons a (KdAll.append b h)
theorem KdAll.length {bad:List Addr}:∀ {vs:List V} {ts:Bk},KdAll K H bad vs ts->vs.length=ts.length
 | _,_,.nil=>rfl
 | _,_,.cons h t=>by rw [Yk,Yk,KdAll.length t]
theorem KdAll.get {bad:List Addr}:∀ {vs:List V} {ts:Bk} {i:Nat} {v:V},KdAll K H bad vs ts->vs[i]?=some v->∃ t,ts[i]?=some t/\KdA K H bad v t
 | _,_,i,v,.nil,h=>by simp at h
 | _,_,0,v,.cons h t,e=>by simp at e; subst e; exact ⟨_,rfl,h⟩
 | _,_,i+1,v,.cons h t,e=>by
  simp at e;obtain ⟨t',e',h'⟩:=KdAll.get (i:=i) t e;exact ⟨t',by simpa using e',h'⟩
theorem KTAll.kd:∀ {b:Bk} {vs:List V},KTAll K H vs (b.map Kd.kt)->KdAll K H [] vs b
 | [],_,.nil=>.nil
 | k::b,_,.cons h t=>.cons (zea h) (KTAll.kd t)
theorem z4f {zs:List V}:∀ {rs:List Ru} {zs:List V},(∀ r ∈ rs,RuOk r)->Bears K H Ru.enc zs rs->TgAll K H zs (rs.map Ru.enc)
 | [],_,_,.nil=>.nil
 | r::rs,_,ok,.cons h t=>by
  refine .cons ?_ (z4f (zs:=zs) (fun x hx=>ok x (mcm _ hx)) t);obtain ⟨o1,o2,_⟩:=ok r (mcs ..);cases (h:Dp K H _ (.tuple [r.1.enc,r.2.enc])) with
  | tup hs ha =>
   cases ha with
   | cons h1 ha =>
   cases ha with
   | cons h2 ha =>
   cases ha;exact .tup hs (.cons (z86 o1 h1) (.cons (z86 o2 h2) .nil))
theorem KdAll.kt {bad:List Addr}:∀ {b:Bk} {vs:List V},(∀ k ∈ b,z03 k.n/\∀ r ∈ k.rs,RuOk r)->KdAll K H bad vs b->KTAll K H vs (b.map Kd.kt)
 | [],_,_,.nil=>.nil
 | k::b,_,ok,.cons h t=>by
  refine .cons ?_ (KdAll.kt (fun x hx=>ok x (mcm _ hx)) t);obtain ⟨t,l,zs,e0,h1,h2,h3,_⟩:=h;obtain ⟨o1,o2⟩:=ok k (mcs ..);exact ⟨t,_,_,_,e0,h1,.str _ (za7 o1),rfl,l,zs,rfl,h2,z4f (zs:=zs) o2 h3⟩
theorem zbg {r:Ru} (h:RuOk r):z9m (Ru.enc r):=by
 obtain ⟨h1,h2,h3⟩:=h;have d1:=z07 r.1;have d2:=z07 r.2;have e1:=r.1.encs_depth;have e2:=r.2.encs_depth;obtain ⟨w1,w2⟩:=z35 r.1;obtain ⟨w3,w4⟩:=z35 r.2;refine ⟨?_,?_,fun a b e g hg=>?_⟩
 ·show PyData.depth (.tuple [.tuple r.1.encs,.tuple r.2.encs])<=60;simp only [PyData.depth,PyData.depthAll]; omega
 ·show wide (.tuple [.tuple r.1.encs,.tuple r.2.encs])<=1000;simp only [wide,z13,Yk,List.length_nil]; omega
 ·have e':PyData.tuple [r.1.enc,r.2.enc]=.tuple [a,b]:=e
  injection e' with e'
  injection e' with ea e'
  injection e' with eb _
  rcases hg with hg | hg
  ·rw [<- ea] at hg; rw [<- Gr.enc_inj hg]; omega
  ·rw [<- eb] at hg; rw [<- Gr.enc_inj hg]; omega
theorem zc5 {k:Kd} (h:k.rs.length<=4/\∀ r ∈ k.rs,RuOk r):z7p k.kt:=by
 intro ds e;have e:some (k.rs.map Ru.enc)=some ds:=e
 injection e with e
 subst e;refine ⟨by rw [Ye]; omega,fun x hx=>?_⟩;obtain ⟨r,hr,rfl⟩:=Qx hx;exact zbg (h.2 r hr)
end
section
variable {J:It} {n:Nat} {G:Hp->Prop} {Y:Nat->Hp->V->Hp->Prop}
theorem zas (w:Walk J n G Y) {g:TG} {tt:TT} {tk tv:TE} {vs:List Nat} {σ:L2.St} {H:Hp} {D:Addr} {Qd:Hp->Prop} (hD:H D=none) (hn:n < sizeLine) (R:Nat->List (Key × V)->Hp->Prop) (h0:R 0 [] H) (hG:∀ H2,SB [] H H2->G H2)
  (st:∀ i us H2 H3,SB [D] H2 H3->R i us H2->R i us H3)
  (turn:∀ (Pv:Hp->Prop) i x H2 H' kvs,i < n->SB [] H H2->Y i H2 x H'->R i kvs H2->kvs.length<=i->(∀ k z H5,SB [] H2 H5->R (i+1) (putK kvs k z) H5->∃ kvs k',kV k=kV k'/\H5 D=some (.dK kvs)/\kvs.length < sizeLine/\Pv (upd H5 D (.dK (putK kvs k' z)))) ->
   (∀ H4,SB [] H2 H4->R (i+1) kvs H4->Pv H4)->g x (wipe σ vs) H' fun σ2 H3=>wipe σ2 vs=wipe σ vs/\tt σ2 H3 fun b H4 =>
    if b=true then tk σ2 H4 fun y H5=>tv σ2 H5 fun z H6=>∃ kvs k,y=kV k/\H6 D=some (.dK kvs)/\kvs.length < sizeLine/\Pv (upd H6 D (.dK (putK kvs k z))) else Pv H4)
  (done:∀ kvs H2,SB [] H H2->H2 D=some (.dK kvs)->R n kvs H2->kvs.length<=n->Qd H2) :
  ∃ W:Nat->Nat->Hp->Prop,(∃ m,W 0 m (upd H D (.dK [])))/\∀ i m H,W i m H ->
   (J.stop i H/\Qd H)\/(J.go i H/\∃ Nx:Hp->Prop,(∀ H',Nx H'->∃ m',m' < m/\W (i+1) m' H')/\∀ x H',J.yld i H x H'->g x (wipe σ vs) H' fun σ2 H2=>wipe σ2 vs=wipe σ vs/\tt σ2 H2 fun b H3 =>
    if b=true then tk σ2 H3 fun y H4=>tv σ2 H4 fun z H5=>∃ kvs k,y=kV k/\H5 D=some (.dK kvs)/\kvs.length < sizeLine/\Nx (upd H5 D (.dK (putK kvs k z))) else Nx H3):=by
 refine lcG (body:=fun Nx x H'=>g x (wipe σ vs) H' fun σ2 H2=>wipe σ2 vs=wipe σ vs/\tt σ2 H2 fun b H3 =>
    if b=true then tk σ2 H3 fun y H4=>tv σ2 H4 fun z H5=>∃ kvs k,y=kV k/\H5 D=some (.dK kvs)/\kvs.length < sizeLine/\Nx (upd H5 D (.dK (putK kvs k z))) else Nx H3) w (fun i H2=>SB [D] H H2/\∃ kvs,H2 D=some (.dK kvs)/\R i kvs H2/\kvs.length<=i)
  ⟨SB.new hD _,[],Qt,st _ _ _ _ (SB.new hD _) h0,Yc _⟩ (fun i H2 _ h=>hG H2 (h.1.drop hD)) (fun i x H2 H' hi h y=>?_) (fun H2 h=>?_)
 ·obtain ⟨s2,kvs,hD2,hR,hl⟩:=h;refine turn _ i x H2 H' kvs hi (s2.drop hD) y hR hl (fun k z H5 s5 r5=>?_) (fun H4 s4 r4=>⟨s2.trans s4.nil,kvs,s4.keep _ _ hD2 nmn,r4,by omega⟩);have hD5:=s5.keep _ _ hD2 nmn;refine ⟨kvs,k,rfl,hD5,by omega,(s2.trans s5.nil).trans (SB.setD hD5 (by simp) _),_,Qt,st _ _ _ _ (SB.setD hD5 (by simp) _) r5,?_⟩;have:=length_putK kvs k z;omega
 ·obtain ⟨s2,kvs,hD2,hR,hl⟩:=h;exact done kvs H2 (s2.drop hD) hD2 hR hl
end
theorem z26 {kvs:List (Key × V)} {k:Key} {v:V} (h:∀ p ∈ kvs,p.1 ≠ k):putK kvs k v=kvs++[(k,v)]:=by
 unfold putK;rw [if_neg];intro z;obtain ⟨p,hp,e⟩:=List.any_eq_true.mp z;exact h p hp (of_decide_eq_true e)
theorem Bk.nodup_at {b:Bk} (nd:b.names.Nodup) {i:Nat} {k:Kd} (h:b[i]?=some k):∀ j ∈ b.take i,j.n ≠ k.n:=by
 intro j hj e;have e1:b.names=(b.take i).map (·.n)++(b.drop i).map (·.n):=by rw [<- Yj,List.take_append_drop]
 rw [e1] at nd;exact (List.nodup_append.mp nd).2.2 j.n (List.mem_map.mpr ⟨j,hj,rfl⟩) k.n (List.mem_map.mpr ⟨k,List.mem_of_getElem? (i:=0) (by rw [List.getElem?_drop]; exact h),rfl⟩) e
theorem SB.setG {H:Hp} {p:Addr} {o:HO} {ps:List Addr} (h:H p=some o) (hp:p ∈ ps) (n1:∀ xs,o ≠ .tup xs) (n2:∀ u v,o ≠ .frz u v) (o':HO):SB ps H (upd H p o'):=by
 refine ⟨fun b u e n=>?_,fun b u e=>?_,fun b v u e=>?_,fun b e=>?_⟩
 ·rw [upd_ne (fun (z:b=p)=>n (by rw [z]; exact hp))]; exact e
 ·rw [upd_ne (fun (z:b=p)=>by subst z; rw [h] at e; exact n1 _ (Yd e))]; exact e
 ·rw [upd_ne (fun (z:b=p)=>by subst z; rw [h] at e; exact n2 _ _ (Yd e))]; exact e
 ·by_cases q:b=p
  ·subst q; rw [Qt] at e; cases e
  ·rw [upd_ne q] at e; exact e
theorem z7m:∀ {b:Bk} {us:List V} {p:Key × V},p ∈ b.rowKV us->∃ j ∈ b,p.1=Sum.inr j.n
 | [],_,p,h=>by cases h
 | k::b,[],p,h=>by cases h
 | k::b,u::us,p,h=>by
  rcases Qv (show p ∈ (Sum.inr k.n,u)::Bk.rowKV b us from h) with h | h
  ·exact ⟨k,mcs ..,by rw [h]⟩
  ·obtain ⟨j,hj,e⟩:=z7m h;exact ⟨j,mcm _ hj,e⟩
section
variable {J:It} {n:Nat} {G:Hp->Prop} {Y:Nat->Hp->V->Hp->Prop}
theorem z96 (w:Walk J n G Y) (ps:List Addr) {g:TG} {tt:TT} {te:TE} {vs:List Nat} {σ:L2.St} {H:Hp} {D:Addr} {Qd:Hp->Prop} (hD:H D=none) (hps:∀ q ∈ ps,H q ≠ none) (hn:n < sizeLine) (R:Nat->List V->Hp->Prop) (h0:R 0 [] H) (hG:∀ H2,SB ps H H2->G H2)
  (st:∀ i us H2 H3,SB [D] H2 H3->R i us H2->R i us H3)
  (turn:∀ (Pv:Hp->Prop) i x H2 H' us,i < n->SB ps H H2->Y i H2 x H'->R i us H2->us.length<=i->(∀ y H5,SB ps H2 H5->R (i+1) (us++[y]) H5->∃ acc,H5 D=some (.lst acc)/\acc.length < sizeLine/\Pv (upd H5 D (.lst (acc++[y])))) ->
   (∀ H4,SB ps H2 H4->R (i+1) us H4->Pv H4)->g x (wipe σ vs) H' fun σ2 H3=>wipe σ2 vs=wipe σ vs/\tt σ2 H3 fun b H4 =>
    if b=true then te σ2 H4 fun y H5=>∃ acc,H5 D=some (.lst acc)/\acc.length < sizeLine/\Pv (upd H5 D (.lst (acc++[y]))) else Pv H4)
  (done:∀ us H2,SB ps H H2->H2 D=some (.lst us)->R n us H2->us.length<=n->Qd H2) :
  ∃ W:Nat->Nat->Hp->Prop,(∃ m,W 0 m (upd H D (.lst [])))/\∀ i m H,W i m H ->
   (J.stop i H/\Qd H)\/(J.go i H/\∃ Nx:Hp->Prop,(∀ H',Nx H'->∃ m',m' < m/\W (i+1) m' H')/\∀ x H',J.yld i H x H'->g x (wipe σ vs) H' fun σ2 H2=>wipe σ2 vs=wipe σ vs/\tt σ2 H2 fun b H3 =>
    if b=true then te σ2 H3 fun y H4=>∃ acc,H4 D=some (.lst acc)/\acc.length < sizeLine/\Nx (upd H4 D (.lst (acc++[y]))) else Nx H3):=by
 have nD:D ∉ ps:=fun z=>hps D z hD;have up:∀ {H1 H2:Hp},SB ps H1 H2->SB (D::ps) H1 H2:=fun e=>e.mono fun b hb=>mcm _ hb;have up1:∀ {H1 H2:Hp},SB [D] H1 H2->SB (D::ps) H1 H2:=fun e=>e.mono fun b hb=>by rw [Qy hb]; exact mcs ..
 refine lc_it w (fun i H2=>SB (D::ps) H H2/\∃ us,H2 D=some (.lst us)/\R i us H2/\us.length<=i) ⟨SB.new hD _,[],Qt,st _ _ _ _ (SB.new hD _) h0,Yc _⟩ (fun i H2 _ h=>hG H2 (h.1.drop hD)) (fun i x H2 H' hi h y=>?_) (fun H2 h=>?_)
 ·obtain ⟨s2,us,hD2,hR,hl⟩:=h;refine turn _ i x H2 H' us hi (s2.drop hD) y hR hl (fun y H5 s5 r5=>?_) (fun H4 s4 r4=>⟨s2.trans (up s4),us,s4.keep _ _ hD2 nD,r4,by omega⟩);have hD5:=s5.keep _ _ hD2 nD;refine ⟨us,hD5,by omega,(s2.trans (up s5)).trans (SB.set hD5 (by simp) _),_,Qt,st _ _ _ _ (SB.set hD5 (by simp) _) r5,?_⟩;rw [Yf,Yi]; omega
 ·obtain ⟨s2,us,hD2,hR,hl⟩:=h;exact done us H2 (s2.drop hD) hD2 hR hl
end
abbrev zf4 (K:Qn):V->List V->Hp->VK->Prop:=fun x xs H Q=>∃ a p,∃ ys:List Str,x=.str a/\xs=[.ref p]/\(SqL K H p (ys.map V.str)\/SqT K H p (ys.map V.str))/\(ys.map (·.length)).sum+ys.length*a.length<=16777216/\Q (.str (Txt.join a ys)) H
theorem zc9:∀ r:Nat,r < 26->abc.cps.toList[r]?=some (97+r):=by
 have:∀ r:Fin 26,abc.cps.toList[r.val]?=some (97+r.val):=by decide +kernel
 intro r hr;exact this ⟨r,hr⟩
theorem Ltr.mid {a b:Str} {n c:Nat} (ha:Ltr a n):(a++⟨#[c]⟩++b).cps.toList[n]?=some c:=by
 have e:(a++⟨#[c]⟩++b).cps.toList=a.cps.toList++(c::b.cps.toList):=by show (a.cps++#[c]++b.cps).toList=_; simp
 rw [e,List.getElem?_append_right (by rw [ha.1]; exact Yc _),ha.1,Nat.sub_self]
 rfl
theorem nodup_range {α:Type} {F:Nat->α} {m:Nat} (h:∀ i j,i < m->j < m->i ≠ j->F i ≠ F j):((List.range m).map F).Nodup:=by
 refine List.pairwise_map.mpr (List.Pairwise.imp_of_mem (fun {i j} hi hj hn=>h i j (List.mem_range.mp hi) (List.mem_range.mp hj) hn) List.nodup_range)
section
variable {D:Ends} {σ:L2.St} {H:Hp} {t u:TS} {te:TE} {g:TG} {c:TT}
theorem seqI (h:t { D with nx:=u D } σ H):tSeq t u D σ H:=h
theorem asgI (h:te σ H fun x H1=>g x σ H1 D.nx):tAsg te g D σ H:=h
theorem ifI (h:c σ H fun b H1=>if b=true then t D σ H1 else u D σ H1):tIfS c t u D σ H:=h
end
theorem z8a {zs:List Str} (h:∀ z ∈ zs,z03 z):SeqAt.shaped (.list (zs.map .str))=true:=by
 have h1:PyData.canLayAll0 (zs.map .str)=true:=by
  induction zs with
  | nil=>simp [PyData.canLayAll0]
  | cons z r ih =>
   rw [List.map_cons,PyData.canLayAll0,ih fun y hy=>h y (mcm _ hy)];simp [PyData.canLay0,Gr.strOk_name (h z (mcs ..))]
 have h2:PyData.depthAll (zs.map .str)=0:=by
  clear h1 h
  induction zs with
  | nil=>simp [PyData.depthAll]
  | cons z r ih=>rw [List.map_cons,PyData.depthAll,ih]; simp [PyData.depth]
 unfold SeqAt.shaped;rw [PyData.canLay0,h1,Bool.true_and];exact Ya (by simp only [PyData.depth,h2]; omega)
theorem zdm (zs:List Str):PyData.eqv (.list (zs.map .str)) (.list [])=decide (zs=[]):=by
 cases zs with
 | nil=>decide +kernel
 | cons z r=>simp [PyData.eqv,PyData.eqvAll]
section
variable {J:It} {n:Nat} {G:Hp->Prop} {Y:Nat->Hp->V->Hp->Prop}
theorem z90 (w:Walk J n G Y) (ps:List Addr) {g:TG} {tt:TT} {te:TE} {vs:List Nat} {σ:L2.St} {H:Hp} {D:Addr} {Qd:Hp->Prop} (hD:H D=none) (hps:∀ q ∈ ps,H q ≠ none) (hn:n < sizeLine) (R:Nat->List V->Hp->Prop) (h0:R 0 [] H) (hG:∀ H2,SB ps H H2->G H2)
  (st:∀ i us H2 H3,SB [D] H2 H3->R i us H2->R i us H3)
  (turn:∀ (Pv:Hp->Prop) i x H2 H' us,i < n->SB ps H H2->Y i H2 x H'->R i us H2->us.length<=i->H2 D=some (.lst us)->(∀ y H5,SB ps H2 H5->R (i+1) (us++[y]) H5->∃ acc,H5 D=some (.lst acc)/\acc.length < sizeLine/\Pv (upd H5 D (.lst (acc++[y])))) ->
   (∀ H4,SB ps H2 H4->R (i+1) us H4->Pv H4)->g x (wipe σ vs) H' fun σ2 H3=>wipe σ2 vs=wipe σ vs/\tt σ2 H3 fun b H4 =>
    if b=true then te σ2 H4 fun y H5=>∃ acc,H5 D=some (.lst acc)/\acc.length < sizeLine/\Pv (upd H5 D (.lst (acc++[y]))) else Pv H4)
  (done:∀ us H2,SB ps H H2->H2 D=some (.lst us)->R n us H2->us.length<=n->Qd H2) :
  ∃ W:Nat->Nat->Hp->Prop,(∃ m,W 0 m (upd H D (.lst [])))/\∀ i m H,W i m H ->
   (J.stop i H/\Qd H)\/(J.go i H/\∃ Nx:Hp->Prop,(∀ H',Nx H'->∃ m',m' < m/\W (i+1) m' H')/\∀ x H',J.yld i H x H'->g x (wipe σ vs) H' fun σ2 H2=>wipe σ2 vs=wipe σ vs/\tt σ2 H2 fun b H3 =>
    if b=true then te σ2 H3 fun y H4=>∃ acc,H4 D=some (.lst acc)/\acc.length < sizeLine/\Nx (upd H4 D (.lst (acc++[y]))) else Nx H3):=by
 have nD:D ∉ ps:=fun z=>hps D z hD;have up:∀ {H1 H2:Hp},SB ps H1 H2->SB (D::ps) H1 H2:=fun e=>e.mono fun b hb=>mcm _ hb;have up1:∀ {H1 H2:Hp},SB [D] H1 H2->SB (D::ps) H1 H2:=fun e=>e.mono fun b hb=>by rw [Qy hb]; exact mcs ..
 refine lc_it w (fun i H2=>SB (D::ps) H H2/\∃ us,H2 D=some (.lst us)/\R i us H2/\us.length<=i) ⟨SB.new hD _,[],Qt,st _ _ _ _ (SB.new hD _) h0,Yc _⟩ (fun i H2 _ h=>hG H2 (h.1.drop hD)) (fun i x H2 H' hi h y=>?_) (fun H2 h=>?_)
 ·obtain ⟨s2,us,hD2,hR,hl⟩:=h;refine turn _ i x H2 H' us hi (s2.drop hD) y hR hl hD2 (fun y H5 s5 r5=>?_) (fun H4 s4 r4=>⟨s2.trans (up s4),us,s4.keep _ _ hD2 nD,r4,by omega⟩);have hD5:=s5.keep _ _ hD2 nD;refine ⟨us,hD5,by omega,(s2.trans (up s5)).trans (SB.set hD5 (by simp) _),_,Qt,st _ _ _ _ (SB.set hD5 (by simp) _) r5,?_⟩;rw [Yf,Yi]; omega
 ·obtain ⟨s2,us,hD2,hR,hl⟩:=h;exact done us H2 (s2.drop hD) hD2 hR hl
end
section
variable {K:Qn} {H H':Hp}
theorem z22 {α:Type} {enc:α->PyData}:∀ {vs:List V} {xs:List α},Bears K H enc vs xs->DpAll K H vs (xs.map enc)
 | _,_,.nil=>.nil
 | _,_,.cons h t=>.cons h (z22 t)
end
theorem z7b {n:Nat}:∀ {ds:List PyData},(∀ d ∈ ds,d.depth<=n)->PyData.depthAll ds<=n
 | [],_=>by simp [PyData.depthAll]
 | d::ds,h=>by
  have h1:=h d (mcs ..);have h2:=z7b fun x hx=>h x (mcm _ hx);rw [PyData.depthAll]; omega
open TL (tl)
theorem z15 {t rest:TS} {D:Ends} {σ:L2.St} {H:Hp} (R:L2.St->Hp->Prop) (h:∀ nx:L2.St->Hp->Prop,(∀ σ' H',R σ' H'->nx σ' H')->t { D with nx:=nx } σ H) (k:∀ σ' H',R σ' H'->rest D σ' H'):tSeq t rest D σ H:=h (rest D) k
theorem z02 {i:Nat} {v:V} {σ:L2.St} {H:Hp} {f:L2.St->Hp->Prop} {r:VK} {b c:L2.St->Hp->Prop} (h:f (σ.set i (some v)) H):gName i v σ H (Ends.mk f r b c).nx:=h
theorem Bk.Ok.two {b:Bk} (ok:b.Ok):∀ k ∈ b,k.rs.length<=4/\∀ r ∈ k.rs,RuOk r:=fun k hk=>⟨(ok.kd k hk).2.1,fun r hr=>((ok.kd k hk).2.2 r hr).1⟩
theorem Bk.Ok.three {b:Bk} (ok:b.Ok):∀ k ∈ b,z03 k.n/\∀ r ∈ k.rs,RuOk r:=fun k hk=>⟨(ok.kd k hk).1,(ok.two k hk).2⟩
theorem zb0 {K:Qn} {C B:Addr} {b:Bk} {H:Hp} {l:Addr} {xs:List V} {bad:List Addr} {Q:VK} {E:XK} (hl:H l=some (.lst xs)) (ha:KdAll K H bad xs b) (ok:b.Ok) (k:∀ y H',SB [] H H'->H y=none->BkA K C H' (.ref y) b->Q (.ref y) H') :
  ∀ y dx,H y=none->H dx=none->dx ≠ y->z47 K C B (.ref y::[.ref l]) (upd (upd H dx (.own y)) y (.ins C dx [])) (fun v H2=>v=.non/\Q (.ref y) H2) E:=by
 intro y dx hy hdx hne;have b8:=ok.len;have hy':upd H dx (.own y) y=none:=by rw [upd_ne (fun z=>hne z.symm)]; exact hy
 have t4:=(SB.new (ps:=[]) hdx (.own y)).trans (SB.new hy' (.ins C dx []));have hdx4:upd (upd H dx (.own y)) y (.ins C dx []) dx=some (.own y):=by rw [upd_ne hne,Qt]
 have hx4:upd (upd H dx (.own y)) y (.ins C dx []) y=some (.ins C dx []):=Qt;refine ⟨y,dx,l,xs,b.map Kd.kt,rfl,hx4,hdx4,t4.keep _ _ hl nmn,(ha.sb t4 NoLst.nil).kt ok.three,fun t ht=>?_,by rw [Ye]; omega,fun b' e ok' H5 s5 hbk=>?_,fun z=>absurd ⟨b,rfl,ok⟩ z⟩
 ·obtain ⟨k,hk,rfl⟩:=Qx ht;exact zc5 (ok.two k hk)
 ·have e:=z6z e;subst e;exact ⟨rfl,k y H5 (((t4.nil (ps:=[y])).trans s5).drop hy) hy hbk⟩
theorem z61 {x:Int} {a b:Nat} (h:x.natAbs < 2 ^ a) (hb:a<=b) (h0:0 < a):x.natAbs.log2 < b:=by
 by_cases e:x.natAbs=0
 ·rw [e]; simp [Nat.log2_zero]; omega
 ·exact Nat.lt_of_lt_of_le ((Nat.log2_lt e).mpr h) hb
open PySem.Froz (SD sObj TxOk addTx tailTx)
structure TxS (P:Program) (w:World) (D:SD) (l:List Str):Prop where
 ok:TxOk P w D l
 nd:l.Nodup
 ris:Ris D.2.2.place.toList
 led:w.params.followText "set-order"=true\/D.2.2.led=true
def insS (k:Str) (l:List Str):List Str:=if k ∈ l then l else k::l
section
variable {P:Program} {w:World} {A:Around} {E:Value->Shared->Prop} {s:Shared} {D:SD} {l:List Str} {k:Str} {u:Tok} {a:Addr} {T:String}
theorem zb3 {es:Array (Int × Value)} {ep:Nat} {t:SetTable} {b:Bool} (r:Ris t.place.toList) (d:w.params.followText "set-order"=true\/t.led=true) :
  Ris (tailTx ep es t b).2.2.place.toList/\(w.params.followText "set-order"=true\/(tailTx ep es t b).2.2.led=true):=by
 unfold tailTx
 split
 ·exact ⟨relayAll_ris ..,d.imp id fun z=>by rw [relayAll_led]; exact z⟩
 ·exact ⟨r,d⟩
theorem TxS.add (F:TxS P w D l) (hk:k ∉ l):TxS P w (addTx (hashStr w k) (.str k u) D) (k::l):=by
 obtain ⟨es,ep,t⟩:=D;have r1:=layNew_ris t es (hashStr w k) (.str k u) F.ris;have d1:=F.led.imp id fun z=>(layNew_led t es (hashStr w k) (.str k u)).trans z;have key:∀ t':SetTable,t'.place=(layNew t es (hashStr w k) (.str k u)).2.1.place->t'.led=(layNew t es (hashStr w k) (.str k u)).2.1.led->∀ es' b,Ris (tailTx ep es' t' b).2.2.place.toList/\(w.params.followText "set-order"=true\/(tailTx ep es' t' b).2.2.led=true) :=
  fun t' e1 e2 es' b=>zb3 (by rw [e1]; exact r1) (by rw [e2]; exact d1)
 have z:=key (if (layNew t es (hashStr w k) (.str k u)).2.1.plain=true then { (layNew t es (hashStr w k) (.str k u)).2.1 with plain:=false } else (layNew t es (hashStr w k) (.str k u)).2.1) (by split <;> rfl) (by split <;> rfl) (layNew t es (hashStr w k) (.str k u)).1 (layNew t es (hashStr w k) (.str k u)).2.2.1;exact ⟨PySem.Froz.add_ok u F.ok,List.nodup_cons.mpr ⟨hk,F.nd⟩,z.1,z.2⟩
theorem zab {Q:Bool->Shared->Prop} (ho:s.heap.get? a=some (sObj T D)) (F:TxOk P w D l) (hk:k ∈ l) (hb:l.length < scanBound) (h:Q false s):wpAny (model P w) A (setAddHashed a (.str k u) (hashStr w k)) Q E s:=by
 obtain ⟨es,ep,t⟩:=D;have hd:(sObj T (es,ep,t)).data=.set es ep t:=rfl;have hel:ElemsOf (strKind P w) es.toList:=F.el;have hsz:es.size=l.length:=F.sz;have is0:(strKind P w).is k (.str k u)=true:=PySem.Froz.is_str k u;obtain ⟨j,hj⟩:∃ j,List.findIdx? (fun e=>(strKind P w).is k e.2) es.toList=some j:=by
  cases e:List.findIdx? (fun e=>(strKind P w).is k e.2) es.toList with
  | some j=>exact ⟨j,rfl⟩
  | none =>
   obtain ⟨x,hx,hi⟩:=(F.mem k).mp hk;have:=List.findIdx?_eq_none_iff.mp e x hx;rw [hi] at this;cases this
 unfold setAddHashed setAddHashedIn;refine wpAny_holding (wpAny_bind (wpAny_setState_of ho hd F.fit ?_));dsimp only;rw [byScan_of rfl (by rw [hsz]; exact hb) hel];simp only [↓reduceIte];unfold setAddByScan;refine wpAny_bind (wpAny_bind (wpAny_rule (wpAny_bind (wpAny_setScan_of (knd:=strKind P w) (k:=k) is0 ho hd F.fit hel ?_))));rw [hj];exact wpAny_pure (wpAny_pure h)
theorem zdg {Q:Bool->Shared->Prop} (ho:s.heap.get? a=some (sObj T D)) (F:TxS P w D l) (hb:l.length+1 < scanBound)
  (h:∀ (b:Bool) (h':Heap) (D':SD),Heap.SameBut a s.heap h'->h'.get? a=some (sObj T D')->TxS P w D' (insS k l)->Q b { s with heap:=h' }):wpAny (model P w) A (setAddHashed a (.str k u) (hashStr w k)) Q E s:=by
 by_cases hk:k ∈ l
 ·refine zab ho F.ok hk (by omega) (h false s.heap D (Heap.SameBut.refl a s.heap) ho ?_);unfold insS;rw [if_pos hk];exact F
 ·refine PySem.Froz.add_x ho F.ok hk hb (h true _ _ (Heap.SameBut.update ..) (PySem.Froz.get_upd _ ho rfl) ?_);unfold insS;rw [if_neg hk];exact F.add hk
end
section
variable {P:Program} {w:World} {A:Around} {E:Value->Shared->Prop} {s:Shared} {D:SD} {l:List Str} {k:Str} {u:Tok} {a:Addr}
theorem zc7 {Q:Value->Shared->Prop} (ho:s.heap.get? a=some (sObj "set" D)) (F:TxS P w D l) (hb:l.length+1 < scanBound)
  (h:∀ (h':Heap) (D':SD),Heap.SameBut a s.heap h'->h'.get? a=some (sObj "set" D')->TxS P w D' (insS k l)->Q .none { s with heap:=h',toks:=s.toks+1 }):wpAny (model P w) A (call (.builtin "set.add") [.ref a,.str k u]) Q E s:=by
 refine wpAny_call_entry PySem.F.slot_set_add ⟨_,ho,rfl⟩ PySem.F.entry_set_add ?_ (PySem.F.args_set_add_2 _ _);unfold Builtin.«set.add» Builtin.Frozenset.oneOther;simp only [List.isEmpty_nil,bind_assoc];unfold Builtin.Frozenset.addrOf setAdd;refine wpAny_bind (wpAny_pure ?_)
 try dsimp only
 refine wpAny_bind (wpAny_pure ?_)
 try dsimp only
 refine wpAny_bind (wpAny_holding (wpAny_bind ((strKind P w).pyHash (k:=k) (PySem.Froz.is_str k u) ?_)));refine zdg (s:={ s with toks:=s.toks+1 }) ho F hb fun b h' D' sb o' F'=>?_;refine (?_:wpAny (model P w) _ (ret Value.none) _ E _);exact wpAny_pure ⟨_,rfl,h h' D' sb o' F'⟩
end
def SetSO (P:Program) (w:World) (a:Addr) (l:List Str):HO:=.ext fun h=>∃ D:SD,h.get? a=some (sObj "set" D)/\TxS P w D l
theorem z7g {P:Program} {w:World} {H:Hp} {h:Heap} {a:Addr} {l:List Str} {D:SD} (ho:h.get? a=some (sObj "set" D)) (F:TxS P w D l):ObjOk P w H h a (SetSO P w a l) :=
 ⟨⟨D,ho,F⟩,⟨_,ho⟩,fun h1 h2 ⟨D',q,F'⟩ k=>⟨D',k _ q,F'⟩⟩
section
variable {X:Cx} {pins:List (Addr × Obj)} {σ:L2.St} {H:Hp} {s:Shared} {l:List Str}
theorem z7d {a:Addr} (I:Inv X pins σ H s) (ha:H a=some (SetSO X.prog X.w a l)):∃ D:SD,s.heap.get? a=some (sObj "set" D)/\TxS X.prog X.w D l:=(I.hok a _ ha).1
theorem zdt {E:Value->Shared->Prop} {a:Addr} {k:Str} {u:Tok} {Q:Value->Shared->Prop} (I:Inv X pins σ H s) (ha:H a=some (SetSO X.prog X.w a l)) (room:l.length+1 < scanBound)
  (h:∀ s',Inv X pins σ (upd H a (SetSO X.prog X.w a (insS k l))) s'->Q .none s'):wpAny (model X.prog X.w) X.A (call (.builtin "set.add") [.ref a,.str k u]) Q E s:=by
 obtain ⟨D,ho,F⟩:=z7d I ha;refine zc7 ho F room fun h' D' sb o' F'=>?_;exact h _ (I.write (e:=a) (t':=s.toks+1) (by rw [ha]; trivial) (.inl rfl) (fun b o hb hu=>(sb.2 b hb).trans hu) ⟨_,o'⟩ (z7g o' F'))
end
theorem zb7 (P:Program) (w:World):TxS P w (#[],0,.fresh 0 0 (!w.params.followText "set-order")) []:=by
 refine ⟨PySem.Froz.TxOk.nil rfl,List.nodup_nil,List.Pairwise.nil,?_⟩;show _\/(!w.params.followText "set-order")=true;cases w.params.followText "set-order"
 ·exact .inr rfl
 ·exact .inl rfl
theorem z88 {P:Program} {w:World} {k:Str} {v:Value} (h:(strKind P w).is k v=true):∃ tk,v=Value.str k tk:=by
 have h:Value.isStrOf k v=true:=h;cases v <;> simp [Value.isStrOf] at h;exact ⟨_,by rw [h]⟩
theorem z92:∀ (l:List Value),(∀ v ∈ l,∃ k tk,v=Value.str k tk)->∃ ss:List Str,StrsAre l ss/\∀ k,k ∈ ss ↔ ∃ v ∈ l,∃ tk,v=Value.str k tk
 | [],_=>⟨[],.nil,fun k=>by simp⟩
 | v::r,h=>by
  obtain ⟨k,tk,rfl⟩:=h v (mcs ..);obtain ⟨ss,h1,h2⟩:=z92 r fun x hx=>h x (mcm _ hx);refine ⟨k::ss,.cons k tk h1,fun j=>?_⟩;rw [List.mem_cons,h2 j];refine ⟨fun z=>?_,fun ⟨x,hx,t',e⟩=>?_⟩
  ·rcases z with rfl | ⟨x,hx,e⟩
   ·exact ⟨_,mcs ..,tk,rfl⟩
   ·exact ⟨x,mcm _ hx,e⟩
  ·rcases Qv hx with q | q
   ·rw [q] at e; cases e; exact .inl rfl
   ·exact .inr ⟨x,q,t',e⟩
theorem z97 {α:Type}:∀ {a b:List α},b.Nodup->a.length=b.length->(∀ k,k ∈ b->k ∈ a)->a.Perm b
 | a,[],_,hl,_=>by
  have:a=[]:=List.eq_nil_of_length_eq_zero hl;rw [this]
 | a,x::b,nd,hl,hm=>by
  obtain ⟨p,q,e⟩:=List.append_of_mem (hm x (mcs ..));subst e;obtain ⟨n1,n2⟩:=List.nodup_cons.mp nd;have ih:=z97 (a:=p++q) (b:=b) n2 (by simp at hl ⊢; omega) fun k hk=>by
   have hx:k ≠ x:=fun z=>n1 (z ▸ hk);have:=hm k (mcm _ hk);simp only [List.mem_append,List.mem_cons] at this ⊢;rcases this with z | z | z
   ·exact .inl z
   ·exact absurd z hx
   ·exact .inr z
  exact List.perm_middle.trans (ih.cons x)
section
variable {P:Program} {w:World} {A:Around} {E:Value->Shared->Prop} {s:Shared} {D:SD} {l:List Str} {a:Addr}
theorem z9z {Q:Value->Shared->Prop} (hh:A.handled=none) (ho:s.heap.get? a=some (sObj "set" D)) (F:TxS P w D l) (h64:l.length < 64)
  (h:∀ (s':Shared) (p:Addr) (out:Array Value) (c:Nat) (ss:List Str),(∀ b o,s.heap.get? b=some o->s'.heap.get? b=some o)->s'.gens=s.gens->s'.os=s.os->s.heap.objs.size<=p->s'.heap.get? p=some (seqObj "list" out c)->StrsAre out.toList ss->ss.Perm l->sortedS ss=true->Q (.ref p) s') :
  wpAny (model P w) A (call (.builtin "sorted") [.ref a]) Q E s:=by
 obtain ⟨es,ep,t⟩:=D;have hsz:es.size=l.length:=F.ok.sz;have hsc:es.size < scanBound:=by rw [hsz]; unfold scanBound; omega
 refine Calls.call_function_entry kind_sorted plain_sorted entry_sorted (args_sorted1 _) ?_;unfold Builtin.«sorted»;refine wpAny_bind (m:=checkCount "sorted" 1 1 _) (wpAny_pure ?_);refine wpAny_bind (collect_set (A:=A.in1) hh ⟨_,ho,rfl,rfl⟩ F.ok.fit hsc F.ris F.led fun s1 vs k1 z1 g1 o1 pm=>?_);have vl:vs.length=l.length:=by rw [pm.length_eq,Ye,Array.length_toList,hsz]
 have shape:∀ v ∈ vs,∃ k tk,v=Value.str k tk:=fun v hv=>by
  obtain ⟨e,he,rfl⟩:=Qx (pm.mem_iff.mp hv);obtain ⟨⟨k,hk,_⟩,_⟩:=F.ok.el e he;obtain ⟨tk,q⟩:=z88 hk;exact ⟨k,tk,q⟩
 obtain ⟨ss,hS,hmem⟩:=z92 vs shape;have hp:ss.Perm l:=by
  refine z97 F.nd (by rw [<- hS.length]; exact vl) fun k hk=>?_;obtain ⟨e,he,hi⟩:=(F.ok.mem k).mp hk;obtain ⟨tk,q⟩:=z88 hi;exact (hmem k).mpr ⟨e.2,pm.mem_iff.mpr (List.mem_map_of_mem he),tk,q⟩
 refine wpAny_bind (wpAny_newList ?_ (by rw [vl,sizeLine_eq]; omega));have at1:(s1.heap.push (seqObj "list" vs.toArray 0)).get? s1.heap.objs.size=some (seqObj "list" vs.toArray 0):=Heap.get?_push_size _ rfl;refine wpAny_bind (wpAny_holding (wpAny_call_entry slot_list_sort ⟨_,at1,rfl⟩ entry_list_sort (list_sort_treeK strKind_oneLt at1 hS.keysOf (fun v1 v2 r e=>keyKind_strs (by rw [<- e]; exact hS)) (by rw [vl]; exact h64) fun st' p1 p2=>⟨_,rfl,?_⟩) (args_list_sort _)));obtain ⟨ss',q1,q2,q3⟩:=sorted_out_str hS p1 p2;obtain ⟨c,hc⟩:=sortedHeap_at (vs:=vs) (out:=(arrOf st').map (·.2)) at1;refine wpAny_pure ⟨_,rfl,h _ s1.heap.objs.size _ c ss' (fun b o e=>?_) g1 o1 z1 hc q1 (q2.trans hp) q3⟩;have e1:=k1 b o e;have lt:=Heap.lt_size e1;show (sortedHeap (s1.heap.push (seqObj "list" vs.toArray 0)) s1.heap.objs.size vs _).get? b=some o;rw [sortedHeap_old (Nat.ne_of_lt lt) (by rw [size_push']; exact Nat.lt_succ_of_lt lt)];exact Heap.get?_push_of_some _ e1
end
section
variable {X:Cx}
def zay (P:Program) (w:World):List V->Hp->VK->Prop:=fun vs H Q=>∃ (a:Addr) (l:List Str),vs=[.ref a]/\H a=some (SetSO P w a l)/\l.length < 64/\∀ (ss:List Str) (p:Addr),ss.Perm l->sortedS ss=true->H p=none->Q (.ref p) (upd H p (.lst (ss.map V.str)))
theorem z4j (hc:X.calm=true):CallR X (.builtin "sorted") (zay X.prog X.w):=by
 intro pins s σ H vs us Q I r h;obtain ⟨a,l,rfl,ha,h64,q⟩:=h;obtain ⟨D,ho,F⟩:=z7d I ha;rw [Vals.ref1 r];refine z9z (I.ok.hd hc) ho F h64 fun s' p out c ss kp eg eo hp at' hS pm srt=>?_;have hn:H p=none:=I.hok.fresh hp;have hz:(ss.map V.str).length<=sizeLine:=by rw [Ye,pm.length_eq,sizeLine_eq]; omega
 obtain ⟨h',g',d',tk',os'⟩:=s';have eo:os'=s.os:=eo;subst eo;exact ⟨.ref p,upd H p (.lst (ss.map V.str)),I.call (ch:=[]) (Un.laid kp hp hn) (I.hok.laid kp hp ⟨hz,out.toList,c,vals_of_strs hS,at'⟩) (by rw [show g'=s.gens from eg]; exact I.bare) (fun _ z=>nomatch z),rfl,q ss p pm srt hn⟩
end
section
variable {X:Cx}
def tScS (P:Program) (w:World) (wi:TI) (g:TG) (tt:TT) (te:TE) (vs:List Nat):TE:=fun σ H Q=>wi σ H fun J H1=>∀ D,H1 D=none->∃ W:Nat->Nat->Hp->Prop,(∃ m,W 0 m (upd H1 D (SetSO P w D [])))/\∀ i m Hi,W i m Hi ->
 (J.stop i Hi/\Q (.ref D) Hi)\/(J.go i Hi/\∃ Nx:Hp->Prop,(∀ H',Nx H'->∃ m',m' < m/\W (i+1) m' H')/\∀ x H',J.yld i Hi x H'->g x (wipe σ vs) H' fun σ2 H2=>wipe σ2 vs=wipe σ vs/\tt σ2 H2 fun b H3 =>
  if b=true then te σ2 H3 fun y H4=>∃ (z:Str) (l:List Str),y=.str z/\H4 D=some (SetSO P w D l)/\l.length+1 < scanBound/\Nx (upd H4 D (SetSO P w D (insS z l))) else Nx H3)
theorem zaw {elt tg iter:Expr} {ifs:List Expr} {scope:Scope} {own:List (PySem.Str × Nat)} {pos:Pos} {wi:TI} {g:TG} {tt:TT} {te:TE} (hc:X.calm=true) (hN:X.N.Nodup) (hi:PI X tg iter wi) (ok:BlkOk X.N X.env.scope scope own)
  (hg:∀ (s1:Shared) (H1:Hp) (C:Addr) (cl:List (PySem.Str × Addr)) (fp:List Addr),L2.PG (X.blk s1 H1 scope (compEnvC scope cl C X.env) fp) tg g) (ht:∀ (s1:Shared) (H1:Hp) (C:Addr) (cl:List (PySem.Str × Addr)) (fp:List Addr),L2.PTs (X.blk s1 H1 scope (compEnvC scope cl C X.env) fp) ifs tt)
  (he:∀ (s1:Shared) (H1:Hp) (C:Addr) (cl:List (PySem.Str × Addr)) (fp:List Addr),L2.PE (X.blk s1 H1 scope (compEnvC scope cl C X.env) fp) elt te) (hs:∀ x,foldedSetIterable iter X.env x=pure x:=by intro _; rfl) :
  PE X (.SetComp elt [⟨tg,iter,ifs,0⟩] scope pos) (tScS X.prog X.w wi g tt te (own.map (·.2))):=by
 refine ⟨fun pins s σ H Q I h=>?_⟩;rw [PpSet.eval_SetComp];have clo:∀ y ∈ scope.names,y.2=.free->∃ c,X.env.cells.lookup y.1=some c:=fun y hy e=>(ok.free y hy e).elim (fun k=>I.ok.has _ (.inl k)) fun k=>I.ok.has _ (.inr k);refine wpAny_comprehension_free (use:=none) rfl hs (closure_ok clo) ok.kind (fun y hy e=>by rw [ok.uniq y hy,e]) (thn (hi.run pins s σ H _ I h) fun xv s1 hx=>thn hx fun itv s2 got=>?_);obtain ⟨it,fp,tn,J,Ha,e0,Ia,Tn,sta,fpa,walk⟩:=got;subst e0;refine PpSet.newSet_ok (newEnv_comp ?_)
 -- the new set,at the heap's end
 generalize eD:s2.heap.objs.size=D;have freeD:Ha D=none:=Ia.hok.fresh (Nat.le_of_eq eD);obtain ⟨W,⟨m0,w0⟩,turn⟩:=walk D freeD;generalize eb:({ s2 with heap:=s2.heap.push { cls:=.type "set",dict:=none,data:=.set #[] 0 (.fresh 0 0 (!X.w.params.followText "set-order")) } }:Shared)=sb;have hpb:sb.heap=s2.heap.push { cls:=.type "set",dict:=none,data:=.set #[] 0 (.fresh 0 0 (!X.w.params.followText "set-order")) }:=by rw [<- eb]
 have Ib:Inv X pins σ (upd Ha D (SetSO X.prog X.w D [])) sb:=by
  rw [<- eb];refine Ia.laid (t':=s2.toks) (fun b o e=>Heap.get?_push_of_some _ e) (Nat.le_of_eq eD) ?_;rw [<- eD];exact z7g (Heap.get?_push_size _ rfl) (zb7 X.prog X.w)
 have low:∀ b ∈ fp,b < s2.heap.objs.size:=fun b hb=>let ⟨o,e,_⟩:=Tn.obj _ _ sta b hb; Heap.lt_size e;have fpb:∀ b ∈ fp,FpOk X pins (upd Ha D (SetSO X.prog X.w D [])) b/\b < sb.heap.objs.size:=fun b hb=>by
  refine ⟨⟨?_,(fpa b hb).2⟩,by rw [hpb,Heap.size_push]; exact Nat.lt_succ_of_lt (low b hb)⟩;rw [upd_ne (by rw [<- eD]; exact Nat.ne_of_lt (low b hb))];exact (fpa b hb).1
 have stb:tn 0 sb.heap:=Tn.keep _ _ _ sta fun b _ o e=>by rw [hpb]; exact Heap.get?_push_of_some _ e
 have Ic:=block_start Ib ok hN fpb;generalize eHb:upd Ha D (SetSO X.prog X.w D [])=Hb at Ib Ic w0 fpb;have pg:=hg sb Hb sb.heap.objs.size (cellsFrom (sb.heap.objs.size+1) scope.names (cloFrom X.env.cells scope.names [])) fp;have pt:=ht sb Hb sb.heap.objs.size (cellsFrom (sb.heap.objs.size+1) scope.names (cloFrom X.env.cells scope.names [])) fp;have pe:=he sb Hb sb.heap.objs.size (cellsFrom (sb.heap.objs.size+1) scope.names (cloFrom X.env.cells scope.names [])) fp;show codeAny (model X.prog X.w) X.A (.compStart (.SetComp elt [⟨tg,iter,ifs,0⟩] scope pos) 0 (.ref it) (.ref D) (compEnvC scope (cellsFrom (sb.heap.objs.size+1) scope.names (cloFrom X.env.cells scope.names [])) sb.heap.objs.size X.env)) (compPost (model X.prog X.w) X.A X.xe none (EP X pins σ Q) (.ref D) sb.heap.objs.size) { sb with heap:=pushCells (sb.heap.push { cls:=.type "dict",data:=.dict #[] }) scope.names };have noneF:∀ b ∈ fp,Hb b=none:=fun b hb=>(fpb b hb).1.1;generalize ece:compEnvC scope (cellsFrom (sb.heap.objs.size+1) scope.names (cloFrom X.env.cells scope.names [])) sb.heap.objs.size X.env=ce at Ic pg pt pe ⊢;have ecl:ce.locals=sb.heap.objs.size:=by subst ece; rfl
 generalize esc:({ sb with heap:=pushCells (sb.heap.push { cls:=.type "dict",data:=.dict #[] }) scope.names }:Shared)=sc at Ic ⊢;have stc:tn 0 sc.heap:=Tn.keep _ _ _ stb fun b _ o e=>by rw [<- esc]; exact pushCells_keeps _ _ _ _ (Heap.get?_push_of_some _ e)
 -- the block's context
 let XB:Cx:=X.blk sb Hb scope ce fp
 have still:∀ {τ:L2.St} {G:Hp} {t:Shared},Inv XB [] τ G t->(∀ b ∈ fp,G b=none)->∀ b ∈ fp,FpOk XB [] G b:=fun {τ G t} I' hn b hb =>
  ⟨hn b hb,(I'.ok.exf b hb).1,I'.ok.exfs b hb,.inl hb,fun x c e=>(I'.ok.exf b hb).2 x c e,fun p hp=>absurd (show p ∈ ([]:List (Addr × Obj))++[] from hp) (by simp)⟩
 have loop:codeAny (model X.prog X.w) X.A (.compLoop (.SetComp elt [⟨tg,iter,ifs,0⟩] scope pos) 0 (.ref it) (.ref D) ce) (compPost (model X.prog X.w) X.A X.xe none (EP X pins σ Q) (.ref D) sb.heap.objs.size) sc:=by
  refine PpSet.compLoopS_any (fun n t=>∃ i G,Inv XB [] (wipe σ (own.map (·.2))) G t/\tn i t.heap/\(∀ b ∈ fp,G b=none)/\W i n G) ?_ m0 ⟨0,Hb,Ic,stc,noneF,w0⟩
  rintro n t ⟨i,G,It,stt,nt,wt⟩
  rcases turn i n G wt with ⟨ends,qq⟩ | ⟨goes,Nx,hNx,step⟩
  ·refine thnF (Tn.done XB rfl rfl rfl hc i [] t _ G (fun _ _=>False) It (still It nt) stt ends) fun r t6 ⟨er,I6⟩=>?_;subst er;have I7:Inv X pins σ G t6:=Ib.call' (ch:=fp) I6.os I6.base I6.hok I6.bare fun b hb=>⟨(fpb b hb).1.2.2.2.1,(fpb b hb).1.2.1,(fpb b hb).1.2.2.2.2.1,(fpb b hb).1.2.2.2.2.2⟩;have nC:G sb.heap.objs.size=none:=ecl ▸ (show G ce.locals=none from I6.free);obtain ⟨m,hn,_⟩:=I6.loc;have hn:t6.heap.Ns sb.heap.objs.size m:=ecl ▸ (show t6.heap.Ns ce.locals m from hn);obtain ⟨f0,f1,f2,f3,f4,f5⟩:=Ib.fpOk (Yc _) nC;exact ⟨m,hn,fun h'' same=>⟨.ref D,G,I7.turned (t':=t6.toks) (fun b o hb e=>(same.2 b hb).trans e) f0 f1 f3 f4 f5,rfl,qq⟩⟩
  ·refine thnF (Tn.item XB rfl rfl rfl hc i [] t _ G (fun _ _=>False) It (still It nt) stt goes) fun r t6 ⟨u,er,h6⟩=>?_;subst er;refine thnF h6 fun _ t7 ⟨x,G7,I7,r7,y7,st7,n7⟩=>?_;have P7:=I7.pinned (still I7 n7) (Tn.obj _ _ st7);refine thnF (pg.run _ t7 _ G7 x u _ P7 r7 (step x G7 y7)) fun _ t8 ⟨τ,G8,I8,hw,q8⟩=>?_;refine thnF (pt.run _ t8 τ G8 _ I8 q8) fun b t9 ⟨G9,I9,q9⟩=>?_;have back:∀ {t':Shared} {G':Hp},Inv XB ([]++pinsAt fp t7.heap) τ G' t'->Nx G'->∃ m,m < n/\∃ i G,Inv XB [] (wipe σ (own.map (·.2))) G t'/\tn i t'.heap/\(∀ b ∈ fp,G b=none)/\W i m G:=fun {t' G'} I' nx=>by
    obtain ⟨m',hm,w'⟩:=hNx G' nx;have keep:∀ b ∈ fp,∀ o,t7.heap.get? b=some o->t'.heap.get? b=some o/\G' b=none:=fun b hb o e =>
     have z:=I'.pin (b,o) (mar _ (mar _ (mem_pinsAt hb e)))
     ⟨z.1,z.2.1⟩
    refine ⟨m',hm,i+1,G',(I'.unpinned (pins:=[])).weak (by rw [<- hw,wipe_length]) (fun j v e=>(wipe_some (hw ▸ e)).1),Tn.keep _ _ _ st7 fun b hb o e=>(keep b hb o e).1,fun b hb=>?_,w'⟩;obtain ⟨o,e,_⟩:=Tn.obj _ _ st7 b hb;exact (keep b hb o e).2
   cases b with
   | false=>exact back I9 q9
   | true =>
    refine thnF (pe.run _ t9 τ G9 _ I9 q9) fun z t10 ⟨yv,G10,I10,r10,zz,l0,ey,hD10,room,nx⟩=>?_;subst ey;obtain ⟨tk,rfl⟩:=r10;exact zdt (X:=XB) I10 hD10 room fun t11 I11=>back I11 nx
 exact PpSet.codeAny_compStart_set loop (Tn.self X.A 0 _ _ _ stc loop)
end
open PySem.Froz (SD sObj TxOk addTx tailTx)
theorem z8e {k x:Str} {l:List Str}:k ∈ insS x l ↔ k=x\/k ∈ l:=by
 unfold insS
 split
 ·rename_i h;exact ⟨.inr,fun z=>z.elim (fun e=>e ▸ h) id⟩
 ·exact List.mem_cons
theorem zbt (x:Str) (l:List Str):(insS x l).length<=l.length+1:=by
 unfold insS
 split
 ·omega
 ·simp
section
variable {J:It} {n:Nat} {G:Hp->Prop} {Y:Nat->Hp->V->Hp->Prop} {P:Program} {w':World}
theorem SetSO.noTup {a:Addr} {l:List Str}:(∀ xs,SetSO P w' a l ≠ .tup xs)/\∀ u v,SetSO P w' a l ≠ .frz u v:=⟨(fun _ z=>nomatch z),(fun _ _ z=>nomatch z)⟩
theorem zb9 (w:Walk J n G Y) {g:TG} {tt:TT} {te:TE} {vs:List Nat} {σ:L2.St} {H:Hp} {D:Addr} {Qd:Hp->Prop} (hD:H D=none) (hn:n+1 < scanBound) (R:Nat->List Str->Hp->Prop) (h0:R 0 [] H) (hG:∀ H2,SB [] H H2->G H2)
  (st:∀ i us H2 H3,SB [D] H2 H3->R i us H2->R i us H3)
  (turn:∀ (Pv:Hp->Prop) i x H2 H' us,i < n->SB [] H H2->Y i H2 x H'->R i us H2->us.length<=i->(∀ z H5,SB [] H2 H5->R (i+1) (insS z us) H5->∃ (z':Str) (l:List Str),V.str z=.str z'/\H5 D=some (SetSO P w' D l)/\l.length+1 < scanBound/\Pv (upd H5 D (SetSO P w' D (insS z' l)))) ->
   (∀ H4,SB [] H2 H4->R (i+1) us H4->Pv H4)->g x (wipe σ vs) H' fun σ2 H3=>wipe σ2 vs=wipe σ vs/\tt σ2 H3 fun b H4 =>
    if b=true then te σ2 H4 fun y H5=>∃ (z:Str) (l:List Str),y=.str z/\H5 D=some (SetSO P w' D l)/\l.length+1 < scanBound/\Pv (upd H5 D (SetSO P w' D (insS z l))) else Pv H4)
  (done:∀ us H2,SB [] H H2->H2 D=some (SetSO P w' D us)->R n us H2->us.length<=n->Qd H2) :
  ∃ W:Nat->Nat->Hp->Prop,(∃ m,W 0 m (upd H D (SetSO P w' D [])))/\∀ i m Hi,W i m Hi ->
   (J.stop i Hi/\Qd Hi)\/(J.go i Hi/\∃ Nx:Hp->Prop,(∀ H',Nx H'->∃ m',m' < m/\W (i+1) m' H')/\∀ x H',J.yld i Hi x H'->g x (wipe σ vs) H' fun σ2 H2=>wipe σ2 vs=wipe σ vs/\tt σ2 H2 fun b H3 =>
    if b=true then te σ2 H3 fun y H4=>∃ (z:Str) (l:List Str),y=.str z/\H4 D=some (SetSO P w' D l)/\l.length+1 < scanBound/\Nx (upd H4 D (SetSO P w' D (insS z l))) else Nx H3):=by
 refine lcG (body:=fun Nx x H'=>g x (wipe σ vs) H' fun σ2 H2=>wipe σ2 vs=wipe σ vs/\tt σ2 H2 fun b H3 =>
    if b=true then te σ2 H3 fun y H4=>∃ (z:Str) (l:List Str),y=.str z/\H4 D=some (SetSO P w' D l)/\l.length+1 < scanBound/\Nx (upd H4 D (SetSO P w' D (insS z l))) else Nx H3) w (fun i H2=>SB [D] H H2/\∃ us,H2 D=some (SetSO P w' D us)/\R i us H2/\us.length<=i) ⟨SB.new hD _,[],Qt,st _ _ _ _ (SB.new hD _) h0,Yc _⟩ (fun i H2 _ h=>hG H2 (h.1.drop hD)) (fun i x H2 H' hi h y=>?_) (fun H2 h=>?_)
 ·obtain ⟨s2,us,hD2,hR,hl⟩:=h;refine turn _ i x H2 H' us hi (s2.drop hD) y hR hl (fun z H5 s5 r5=>?_) (fun H4 s4 r4=>⟨s2.trans s4.nil,us,s4.keep _ _ hD2 nmn,r4,by omega⟩);have hD5:=s5.keep _ _ hD2 nmn;have t6:SB [D] H5 (upd H5 D (SetSO P w' D (insS z us))):=SB.setG hD5 (by simp) SetSO.noTup.1 SetSO.noTup.2 _;refine ⟨z,us,rfl,hD5,by omega,(s2.trans s5.nil).trans t6,_,Qt,st _ _ _ _ t6 r5,?_⟩;have:=zbt z us;omega
 ·obtain ⟨s2,us,hD2,hR,hl⟩:=h;exact done us H2 (s2.drop hD) hD2 hR hl
end
def z53 (K:Qn) (C N:Addr):Sp:=fun vs H Q E=>∃ (v:V) (b:Bk) (n:Str),vs=[v,.str n]/\BkA K C H v b/\b.length<=1000/\(∀ k ∈ b,k.rs.length<=1000) /\
 z2j N b n H E fun k=>∀ (l:Addr) (us:List V) (H':Hp),SB [] H H'->H l=none->H' l=some (.lst us)->Bears K H' Ru.enc us ((.nil,.nil)::k.rs)->Q (.ref l) H'
section
variable {M:Model} {A:Around} {E:Value->Shared->Prop} {s:Shared} {env:Env}
theorem zec {func:Expr} {args:List Expr} {kws:List Keyword} {pos:Pos} {Q:Value->Shared->Prop}
  (h:wpAny M A (eval func env) (fun f s₁=>wpAny M A (callWith pos f [] (backTo pos (starEach args env)) (backToKw pos (keywordEach kws env))) Q E s₁) E s)
  (he:eval (.Call func args kws pos) env=(do callWith pos (<- eval func env) [] (backTo pos (starEach args env)) (backToKw pos (keywordEach kws env))):=by rfl) :
  wpAny M A (eval (.Call func args kws pos) env) Q E s:=by
 rw [he]; exact wpAny_bind h
theorem z72 {pos:Pos} {T:String} {e:Expr} {rest:List Expr} {kws:List Keyword} {Q:Value->Shared->Prop}
  (h:wpAny M A (spliced (backTo pos (starEach (e::rest) env))) (fun vs s₁=>wpAny M A (evalAll ((backToKw pos (keywordEach kws env)).map (·.2)))
   (fun kvs s₂=>wpAny M A (call (.type T) vs (((backToKw pos (keywordEach kws env)).filterMap (·.1)).zip kvs)) Q E s₂) E s₁) E s)
  (he:starEach (e::rest) env=(false,eval e env)::starEach rest env)
  (hplain:(backTo pos (starEach rest env)).any (·.1)=false)
  (hall:(backToKw pos (keywordEach kws env)).all (·.1.isSome)=true)
  (hkw:(backToKw pos (keywordEach kws env)).any (·.1.isNone)=false) :
  wpAny M A (callWith pos (.type T) [] (backTo pos (starEach (e::rest) env)) (backToKw pos (keywordEach kws env))) Q E s:=by
 rw [he] at h ⊢;have h2:(backTo pos ((false,eval e env)::starEach rest env)).any (·.1)=false:=by
  show (false || (backTo pos (starEach rest env)).any (·.1))=false;rw [hplain]; rfl
 have h3:backTo pos ((false,eval e env)::starEach rest env)=(false,eval e env)::backTo pos (starEach rest env):=rfl;rw [h3] at h h2 ⊢;unfold callWith;refine wpAny_bind (wpAny_holding (wpAny_mono (evalArgs_kwB (Q:=fun a s₁=>wpAny M A (call (.type T) ([]++a.pos) a.kw) Q E s₁) hall h) (fun a s₁ h₁=>wpAny_bind (wpAny_standAt ?_)) fun _ _ x=>x));simp only [h2,hkw,Bool.or_false];refine wpAny_bind (wpAny_pure ?_);exact wpAny_bind (wpAny_mono h₁ (fun r s₂ hr=>wpAny_bind (wpAny_holding (wpAny_point (wpAny_pure hr)))) fun _ _ x=>x)
end
def IteS (K:Qn) (a:Addr):It :=
 ⟨fun i H=>∃ (xs:List V) (x:V),SqL K H a xs/\xs[i]?=some x,
  fun i H v H2=>∃ T x,v=.ref T/\H T=none/\H2=upd H T (.tup [.int ((i+1:Nat):Int),x])/\∀ xs,SqL K H a xs->xs[i]?=some x,
  fun i H=>∃ xs:List V,SqL K H a xs/\xs.length=i⟩
theorem za6 {P:Program} {w:World} {K:Qn} {elts:List Expr} {kk:Nat} {tpos:Pos} (a e it:Addr) (hei:e ≠ it) (hai:a ≠ it) (hea:e ≠ a) :
  Turn P w K (.Tuple elts kk tpos) (IteS K a) [e,it] e (fun i h=>(∃ old,IsEnum h e it ((i+1:Nat):Int) old)/\h.IsListIter it a i) where
 mem:=by simp
 obj:=fun i h st b hb=>by
  obtain ⟨⟨old,he⟩,o,ho,hc,hd⟩:=st;rcases (show b=e\/b=it by simpa using hb) with z | z
  ·rw [z]; exact ⟨_,he,fun v q=>nomatch q⟩
  ·rw [z]; exact ⟨o,ho,fun v q=>by rw [hd] at q; cases q⟩
 keep:=fun i h h2 st k=>let ⟨⟨old,he⟩,hi⟩:=st; ⟨⟨old,k e (by simp) _ he⟩,hi.at fun o q=>k it (by simp) o q⟩
 item:=by
  intro X hP hw hK hc i pins s σ H E I hf st hg;subst hP hw hK;obtain ⟨⟨old,he⟩,hit⟩:=st;obtain ⟨xs,x,hq,hx⟩:=hg;obtain ⟨its,rv,p,hz⟩:=I.list hq;obtain ⟨u,hu,ru⟩:=rv.get hx;have hel:e < s.heap.objs.size:=Heap.lt_size he;have hil:it < s.heap.objs.size:=by obtain ⟨_,z,_⟩:=hit; exact Heap.lt_size z
  have Dr:=Draws.list (prog:=X.prog) (w:=X.w) (A:=X.A.in1) (I.ok.hd hc) it a hai its.toArray;have hlt:i < its.toArray.size:=by
   have:=(List.getElem?_eq_some_iff.mp hu).1;simpa using this
  refine wpAny_pyNext_enum_itemC Dr he ⟨hit,p.isList⟩ hlt hei (by simp [hei,hea]) fun y h2 tk hy ho hst hT hsz hk=>?_;have hyu:y=u:=by
   have h3:its[i]?=some y:=by simpa using hy
   rw [hu] at h3; exact (Yd h3).symm
  subst hyu;refine ⟨_,rfl,wpAny_letOwnedTupleGo_enum (s:={ s with heap:=h2,toks:=tk+1 }) ho fun h3 he3 sb=>?_⟩;have hT2:h3.get? s.heap.objs.size=some { cls:=.type "tuple",data:=.seq #[.int ((i+1:Nat):Int) tk,y] }:=(sb.2 _ (Nat.ne_of_gt hel)).trans hT;have nw:ObjOk X.prog X.w (upd H s.heap.objs.size (.tup [.int ((i+1:Nat):Int),x])) h3 s.heap.objs.size (.tup [.int ((i+1:Nat):Int),x]):=⟨by show 2<=sizeLine; decide,[.int ((i+1:Nat):Int) tk,y],.cons ⟨_,rfl⟩ (.cons ru .nil),⟨_,hT2,rfl,_,rfl⟩⟩;have I1:Inv X pins σ (upd H s.heap.objs.size (.tup [.int ((i+1:Nat):Int),x])) { s with heap:=h3,toks:=tk+1 }:=I.turnedNew (ch:=[e,it]) (fun b ob hb z=>(sb.2 b (fun y=>hb (by simp [y]))).trans (hk b ob (fun y=>hb (by simp [y])) (fun y=>hb (by simp [y])) z)) hf (Yc _) nw;refine ⟨.ref s.heap.objs.size,_,I1,rfl,⟨_,x,rfl,I.hok.fresh (Yc _),rfl,fun ys hy=>by rw [I.list_inj hy hq]; exact hx⟩,⟨⟨y,?_⟩,hst.1.at fun o q=>(sb.2 it (Ne.symm hei)).trans q⟩,fun b hb=>?_⟩
  ·rw [show ((i+1+1:Nat):Int)=((i+1:Nat):Int)+1 by omega]; exact he3
  ·have hb2:b < s.heap.objs.size:=by
    rcases (show b=e\/b=it by simpa using hb) with z | z
    ·rw [z]; exact hel
    ·rw [z]; exact hil
   rw [upd_ne (Nat.ne_of_lt hb2)]; exact (hf b hb).1
 done:=by
  intro X hP hw hK hc i pins s σ H E I hf st hg;subst hP hw hK;obtain ⟨⟨old,he⟩,hit⟩:=st;obtain ⟨xs,hq,hx⟩:=hg;obtain ⟨its,rv,p,hz⟩:=I.list hq;obtain ⟨f0,f1,f2,f3,f4,f5⟩:=hf it (by simp);have hl:=rv.length;have Dr:=Draws.list (prog:=X.prog) (w:=X.w) (A:=X.A.in1) (I.ok.hd hc) it a hai its.toArray;have hn:its.toArray.size=i:=by simp; omega
  refine wpAny_pyNext_enum_endD Dr he ⟨by rw [hn]; exact hit,p.isList⟩ fun h2 eb=>⟨rfl,I.turned (t':=s.toks) (fun b o hb z=>eb b o hb z) f0 f1 f3 f4 f5⟩
 self:=fun A i s Q E st h=>let ⟨⟨_,he⟩,_⟩:=st; wpAny_pyIter_enum he h
def zfs (K:Qn) (te:TE):TI:=fun σ H R=>te σ H fun v H1=>∃ a xs,v=.ref a/\SqL K H1 a xs/\R (IteS K a) H1
theorem zc4 {X:Cx} {ex:Expr} {te:TE} {p pos tpos kp cp:Pos} {elts:List Expr} {kk ck:Nat} (hg:Gl X "enumerate") (hm:X.mg "enumerate"=none) (he:PE X ex te) (hs:starEach [ex] X.env=(false,eval ex X.env)::starEach [] X.env:=by rfl) :
  PI X (.Tuple elts kk tpos) (.Call (.Name "enumerate" p) [ex] [⟨some "start",.Constant (.int 1) ck cp,kp⟩] pos) (zfs X.K te):=by
 refine ⟨fun pins s σ H R I h=>?_⟩;refine zec (ld_blt I hg hm boot_enumerate (z72 (args_cons (thn (he.run pins s σ H _ I h) fun u s1 ⟨v,H1,I1,r1,q1⟩=>args_nil ?_) hs) hs rfl rfl rfl));obtain ⟨a,xs,ev,hq,q⟩:=q1;subst ev;cases r1;refine kws_cons (thn ((pe_int (X:=X) (i:=1) (j:=ck) (pos:=cp)).run pins s1 σ H1 (fun v H2=>v=.int 1/\H2=H1) I1 ⟨rfl,rfl⟩) fun u s2 ⟨v,H2,I2,r2,q2⟩=>kws_nil ?_);obtain ⟨rfl,rfl⟩:=q2;obtain ⟨t,rfl⟩:∃ t,u=.int 1 t:=r2;obtain ⟨its,rv,pt,hz⟩:=I2.list hq;have ht:s2.heap.IsList a its.toArray:=pt.isList;have hal:a < s2.heap.objs.size:=by obtain ⟨_,z,_⟩:=ht; exact Heap.lt_size z
 show wpAny _ _ (call (.type "enumerate") [.ref a] [(Str.ofString "start",.int 1 t)]) _ _ _;refine enum_begins_start (begins_list a its.toArray) ht (by decide) (by decide) fun h2 he2 hit hsz hk=>wpAny_pyIter_enum he2 ?_;have I3:Inv X pins σ H2 { s2 with heap:=h2 }:=I2.kept (t':=s2.toks) hk;refine ⟨s2.heap.objs.size+1,[s2.heap.objs.size+1,s2.heap.objs.size],_,_,H2,rfl,I3,za6 a (s2.heap.objs.size+1) s2.heap.objs.size (Nat.succ_ne_self _) (Nat.ne_of_lt hal) (Nat.ne_of_gt (Nat.lt_succ_of_lt hal)),⟨⟨.none,he2⟩,⟨_,hit,rfl,rfl⟩⟩,fun b hb=>?_,q⟩;have hle:s2.heap.objs.size<=b:=by
  rcases (show b=s2.heap.objs.size+1\/b=s2.heap.objs.size by simpa using hb) with z | z
  ·rw [z]; exact Nat.le_add_right _ _
  ·rw [z]; exact Yc _
 exact I2.fpOk hle (I2.hok.fresh hle)
theorem za2 {K:Qn} {a:Addr} {xs:List V}:Walk (IteS K a) xs.length (fun H=>SqL K H a xs) (YPair (fun i=>some (.int ((i+1:Nat):Int))) (fun i=>xs[i]?)):=by
 refine ⟨fun i _ hi q=>⟨xs,xs[i],q,by simp [hi]⟩,fun _ q=>⟨xs,q,rfl⟩,fun i H v H2 _ q y=>?_⟩;obtain ⟨T,x,h1,h2,h3,h4⟩:=y;exact ⟨T,.int ((i+1:Nat):Int),x,h1,h2,h3,rfl,h4 xs q⟩
namespace Gr
def ak:Gr->Nat->List (Pl × Str)
 | .nil,_=>[]
 | .cons k g _ r,i=>(([i],k)::(g.ak 0).map fun x=>(i::x.1,x.2))++r.ak (i+1)
def akP (p:Tr × Int) (i:Nat):List (Pl × Str):=([i],p.1.1)::(p.1.2.ak 0).map fun x=>(i::x.1,x.2)
def aks:List (Tr × Int)->Nat->List (Pl × Str)
 | [],_=>[]
 | p::r,i=>akP p i++aks r (i+1)
theorem ak_ps:∀ (g:Gr) (i:Nat),g.ak i=aks g.ps i
 | .nil,_=>rfl
 | .cons k g m r,i=>by show _++r.ak (i+1)=_++aks r.ps (i+1); rw [ak_ps r]; rfl
theorem aks_append:∀ (as bs:List (Tr × Int)) (i:Nat),aks (as++bs) i=aks as i++aks bs (i+as.length)
 | [],bs,i=>by simp [aks]
 | p::r,bs,i=>by
  show akP p i++aks (r++bs) (i+1)=_;rw [aks_append r bs (i+1)];show _=(akP p i++aks r (i+1))++aks bs (i+(r.length+1));rw [List.append_assoc,show i+1+r.length=i+(r.length+1) by omega]
theorem aks_take {bs:List (Tr × Int)} {i:Nat} {p:Tr × Int} (h:bs[i]?=some p):aks (bs.take (i+1)) 0=aks (bs.take i) 0++akP p i:=by
 have hl:i < bs.length:=(List.getElem?_eq_some_iff.mp h).1;rw [Yg,h,aks_append,List.length_take,Nat.min_eq_left (by omega),Nat.zero_add];show _++(akP p i++[])=_;rw [List.append_nil]
theorem ak_kinds:∀ (g:Gr) (i:Nat),(g.ak i).map (·.2)=g.within.map (·.1.1)
 | .nil,_=>rfl
 | .cons k g m r,i=>by
  have h1:=ak_kinds g 0;have h2:=ak_kinds r (i+1);show ((([i],k)::(g.ak 0).map fun x=>(i::x.1,x.2))++r.ak (i+1)).map (·.2)=(((k,g),m)::(g.within++r.within)).map (·.1.1);rw [Yj,List.map_cons,List.map_map,h2,List.map_cons,Yj,<- h1]
  rfl
theorem ak_len (g:Gr) (i:Nat):(g.ak i).length=g.parts:=by
 have:=congrArg List.length (ak_kinds g i);rw [Ye,Ye,within_length] at this;exact this
theorem ak_long:∀ (g:Gr) (i:Nat),∀ x ∈ g.ak i,x.1.length<=g.deep
 | .nil,_,x,h=>by cases h
 | .cons k g m r,i,x,h=>by
  have h1:=ak_long g 0;have h2:=ak_long r (i+1);show x.1.length<=max (1+g.deep) r.deep;rcases Qw h with h | h
  ·rcases Qv h with h | h
   ·rw [h]; show 1<=_; omega
   ·obtain ⟨q,hq,rfl⟩:=Qx h;have:=h1 q hq;show q.1.length+1<=_; omega
  ·have:=h2 x h; omega
theorem lk_root {a b:Str} {g:Gr} {os:List (Option Int)} (h:os ≠ []):lk (a,g) os=lk (b,g) os:=by
 cases os with
 | nil=>exact absurd rfl h
 | cons o r=>rfl
theorem ak_at {G:Gr}:∀ (g:Gr) (i:Nat),G.ps.drop i=g.ps->∀ x ∈ g.ak i,plO x.1 ≠ []/\∃ t:Tr,lk ("",G) (plO x.1)=some t/\t.1=x.2
 | .nil,_,_,x,h=>by cases h
 | .cons k g m r,i,hd,x,h=>by
  have hd':G.ps.drop i=((k,g),m)::r.ps:=hd;have hi:G.ps[i]?=some ((k,g),m):=by
   have:=congrArg (·[0]?) hd';simpa using this
  have hs:stp G (some ((i:Nat):Int))=some (k,g):=by
   show (if (0:Int)<=((i:Nat):Int) then (G.ps[((i:Nat):Int).toNat]?).map (·.1) else none)=_;rw [if_pos (by omega),Int.toNat_natCast,hi]; rfl
  rcases Qw h with h | h
  ·rcases Qv h with h | h
   ·rw [h];refine ⟨by simp [plO],(k,g),?_,rfl⟩;show (stp G (some ((i:Nat):Int))).bind _=_;rw [hs]; rfl
   ·obtain ⟨q,hq,rfl⟩:=Qx h;obtain ⟨n1,t,e1,e2⟩:=ak_at (G:=g) g 0 rfl q hq;refine ⟨by simp [plO],t,?_,e2⟩;show (stp G (some ((i:Nat):Int))).bind (fun u=>lk u (plO q.1))=_;rw [hs];show lk (k,g) (plO q.1)=some t;rw [lk_root (b:="") n1,e1]
  ·refine ak_at r (i+1) ?_ x h;rw [<- List.drop_drop,hd']; rfl
theorem ak_place (g:Gr):∀ x ∈ g.ak 0,plO x.1 ≠ []/\∃ t:Tr,lk ("",g) (plO x.1)=some t/\t.1=x.2:=ak_at g 0 rfl
theorem deep_parts:∀ g:Gr,g.deep<=g.parts
 | .nil=>Yc _
 | .cons k g m r=>by
  have h1:=deep_parts g;have h2:=deep_parts r;show max (1+g.deep) r.deep<=1+g.parts+r.parts;omega
end Gr
def z2k (K:Qn) (n:Nat):Sp:=fun vs H Q _=>∃ (v:V) (g:Gr),vs=[v]/\GA K H v g/\g.deep < n/\g.deep<=100/\g.parts<=1000/\∀ (D:Addr) (us:List V) (H':Hp),SB [] H H'->H D=none->H' D=some (.lst us)->Bears K H' z1r us ((g.ak 0).map (·.1))->Q (.ref D) H'
structure Sx where
 n:Str
 i:Nat
 wd:Str
 p:Pl
 k:Str
def Sx.st (s:Sx):PyData:=.tuple [.str s.n,.int (s.i:Int),.str s.wd,z1r s.p]
def Sx.enc (s:Sx):PyData:=.tuple [s.st,.str s.k]
theorem Sx.noList_st (s:Sx):z09 s.st=true:=by simp [Sx.st,z09,z0c,z0s]
theorem Sx.noList_enc (s:Sx):z09 s.enc=true:=by simp [Sx.enc,z09,z0c,Sx.noList_st]
def stG (n:Str) (i:Nat) (wd:Str) (g:Gr):List Sx:=(g.ak 0).map fun x=>⟨n,i,wd,x.1,x.2⟩
def stR (n:Str) (x:Ru × Nat):List Sx:=stG n x.2 "once" x.1.1++stG n x.2 "each" x.1.2
def Kd.steps (k:Kd):List Sx:=(k.rs.zipIdx 1).flatMap (stR k.n)
def ledR (rs:List Ru):List Str:=rs.flatMap fun r=>r.within.map (·.1.1)
theorem z7h (n:Str) (i:Nat) (wd:Str) (g:Gr):(stG n i wd g).map (·.k)=g.within.map (·.1.1):=by
 unfold stG;rw [List.map_map,<- Gr.ak_kinds g 0]; rfl
theorem z1u (n:Str) (i:Nat) (wd:Str) (g:Gr):(stG n i wd g).length=g.parts:=by
 unfold stG;rw [Ye,Gr.ak_len]
theorem zag (n:Str) (x:Ru × Nat):(stR n x).map (·.k)=x.1.within.map (·.1.1):=by
 unfold stR Ru.within;rw [Yj,Yj,z7h,z7h]
theorem zdp (n:Str) (x:Ru × Nat):(stR n x).length=x.1.1.parts+x.1.2.parts:=by
 unfold stR;rw [Yf,z1u,z1u]
theorem z64 (n:Str):∀ (rs:List Ru) (i:Nat),((rs.zipIdx i).flatMap (stR n)).map (·.k)=ledR rs
 | [],_=>rfl
 | r::rs,i=>by
  rw [List.zipIdx_cons,List.flatMap_cons,Yj,z64 n rs (i+1),zag]
  rfl
theorem Kd.steps_kinds (k:Kd):k.steps.map (·.k)=ledR k.rs:=z64 _ _ _
theorem zbd (n:Str):∀ (xs:List (Ru × Nat)),(∀ x ∈ xs,x.1.1.parts+x.1.2.parts<=4)->(xs.flatMap (stR n)).length<=4*xs.length
 | [],_=>Yc _
 | x::xs,h=>by
  have h1:=zbd n xs fun y hy=>h y (mcm _ hy);have h2:=h x mcs;rw [List.flatMap_cons,Yf,zdp,Yk];omega
theorem Kd.steps_len {k:Kd} (h4:k.rs.length<=4) (h:∀ r ∈ k.rs,RuOk r):k.steps.length<=16:=by
 have:=zbd k.n (k.rs.zipIdx 1) fun x hx=>(h x.1 (by
  have:=List.mem_zipIdx hx;rw [this.2.2]; exact List.getElem_mem _)).2.2
 rw [List.length_zipIdx] at this;show ((k.rs.zipIdx 1).flatMap (stR k.n)).length<=16;omega
def z7c (K:Qn):Sp:=fun vs H Q _=>∃ (n wd:Str) (i:Nat) (v:V) (g:Gr),vs=[.str n,.int (i:Int),.str wd,v]/\GA K H v g/\g.deep < 20/\g.parts<=60/\∀ (l:Addr) (us:List V) (H':Hp),SB [] H H'->H l=none->H' l=some (.lst us)->Bears K H' Sx.enc us (stG n i wd g)->Q (.ref l) H'
def z7f (K:Qn) (C N:Addr):Sp:=fun vs H Q E=>∃ (v:V) (b:Bk) (n:Str),vs=[v,.str n]/\BkA K C H v b/\b.Ok /\
 z2j N b n H E fun k=>∀ (l:Addr) (us:List V) (H':Hp),SB [] H H'->H l=none->H' l=some (.lst us)->Bears K H' Sx.enc us k.steps->Q (.ref l) H'
structure SrtOf (ss ks:List Str):Prop where
 srt:sortedS ss=true
 nd:ss.Nodup
 mem:∀ x,x ∈ ss ↔ x ∈ ks
theorem z6f {x:Str} {l:List Str} (h:l.Nodup):(insS x l).Nodup:=by
 unfold insS
 split
 ·exact h
 ·rename_i hx;exact List.nodup_cons.mpr ⟨hx,h⟩
theorem SrtOf.perm {ss l ks:List Str} (pm:ss.Perm l) (s:sortedS ss=true) (nd:l.Nodup) (h:∀ x,x ∈ l ↔ x ∈ ks):SrtOf ss ks :=
 ⟨s,pm.nodup_iff.mpr nd,fun x=>pm.mem_iff.trans (h x)⟩
def z6x (K:Qn) (C N:Addr):Sp:=fun vs H Q E=>∃ (v:V) (b:Bk) (n:Str),vs=[v,.str n]/\BkA K C H v b/\b.Ok /\
 z2j N b n H E fun k=>∀ (l:Addr) (ss:List Str) (H':Hp),SB [] H H'->H l=none->H' l=some (.lst (ss.map V.str))->SrtOf ss (ledR k.rs)->Q (.ref l) H'
theorem Bk.Ok.led {b:Bk} (ok:b.Ok) {k:Kd} (hk:k ∈ b):∀ x ∈ ledR k.rs,x ∈ b.names:=fun x hx=>by
 obtain ⟨r,hr,hx⟩:=List.mem_flatMap.mp hx;obtain ⟨p,hp,rfl⟩:=Qx hx;exact ((ok.kd k hk).2.2 r hr).2 p hp
def z56 (K:Qn) (x:Addr):Bool:=match K.lookup x with
 | some o=>(match o.cls,o.data with
  | .type t,.seq its _=>decide (t="tuple")&&decide (its.toList.length=0)
  | _,_=>false)
 | none=>false
def no2B (K:Qn) (a:Addr):Bool:=match K.lookup a with
 | some o=>(match o.cls,o.data with
  | .type t,.seq its _=>decide (t="tuple")&&(match its.toList with
   | [.ref x,.ref y]=>z56 K x&&z56 K y
   | _=>false)
  | _,_=>false)
 | none=>false
theorem z7n {K:Qn} {x:Addr} (h:z56 K x=true) (H:Hp):SqT K H x []:=by
 unfold z56 at h
 split at h
 ·rename_i o ho
  split at h
  ·rename_i t its n hc hd;rw [Bool.and_eq_true,decide_eq_true_eq,decide_eq_true_eq] at h;have hz:its.size=0:=by simpa using h.2
   have he:its.toList=[]:=List.length_eq_zero_iff.mp h.2;refine .inr ⟨o,its,n,ho,by rw [hc,h.1],hd,by rw [hz]; exact Nat.zero_le _,by rw [he]; exact .nil⟩
  ·cases h
 ·cases h
theorem zde {K:Qn} {a:Addr} (h:no2B K a=true) (H:Hp):Dp K H (.ref a) (Ru.enc (.nil,.nil)):=by
 unfold no2B at h
 split at h
 ·rename_i o ho
  split at h
  ·rename_i t its n hc hd;rw [Bool.and_eq_true,decide_eq_true_eq] at h;obtain ⟨h1,h2⟩:=h
   split at h2
   ·rename_i x y he;rw [Bool.and_eq_true] at h2;have hz:its.size=2:=by have:=congrArg List.length he; simpa using this
    have hs:SqT K H a [.ref x,.ref y]:=.inr ⟨o,its,n,ho,by rw [hc,h1],hd,by rw [hz]; decide,by rw [he]; exact .cons rfl (.cons rfl .nil)⟩;exact .tup hs (.cons (.tup (z7n h2.1 H) .nil) (.cons (.tup (z7n h2.2 H) .nil) .nil))
   ·cases h2
  ·cases h
 ·cases h
namespace Gr
theorem enc_eq_nil (g:Gr):PyData.eqv g.enc (.tuple [])=decide (g=.nil):=by
 cases g with
 | nil=>simp [enc,encs,PyData.eqv,PyData.eqvAll]
 | cons k g m r=>simp [enc,encs,PyData.eqv,PyData.eqvAll]
end Gr
section
variable {σ:L2.St} {H:Hp} {t:TE} {ta tb:TE} {as:TA}
theorem z5v {Q:List V->Hp->Prop} (h:t σ H fun x H1=>as σ H1 fun xs H2=>Q (x::xs) H2):tCons t as σ H Q:=h
end
section
variable {X:Cx}
theorem zbj {i:Nat} {y:PySem.Str} {py:Pos} {kx vx tg iter:Expr} {ifs:List Expr} {scope:Scope} {own:List (PySem.Str × Nat)} {pos spos:Pos} {wi:TI} {g:TG} {tt:TT} {tk tv:TE} (hc:X.calm=true) (hN:X.N.Nodup) (hy:X.N[i]?=some y) (hyl:X.env.scope.names.lookup y=some .local)
  (hsw:swapsWith (.DictComp kx vx [⟨tg,iter,ifs,0⟩] scope pos) (some (.Name y py)) spos.line X.env=pure true) (hi:PI X tg iter wi) (ok:BlkOk X.N X.env.scope scope own)
  (hg:∀ (s:Shared) (H:Hp) (C:Addr) (cl:List (PySem.Str × Addr)) (fp:List Addr),L2.PG (X.blk s H scope (compEnvC scope cl C X.env) fp) tg g) (ht:∀ (s:Shared) (H:Hp) (C:Addr) (cl:List (PySem.Str × Addr)) (fp:List Addr),L2.PTs (X.blk s H scope (compEnvC scope cl C X.env) fp) ifs tt)
  (hk:∀ (s:Shared) (H:Hp) (C:Addr) (cl:List (PySem.Str × Addr)) (fp:List Addr),L2.PE (X.blk s H scope (compEnvC scope cl C X.env) fp) kx tk)
  (he:∀ (s:Shared) (H:Hp) (C:Addr) (cl:List (PySem.Str × Addr)) (fp:List Addr),L2.PE (X.blk s H scope (compEnvC scope cl C X.env) fp) vx tv) (hs:∀ x,foldedSetIterable iter X.env x=pure x:=by intro _; rfl) :
  PS X (.Assign [.Name y py] (.DictComp kx vx [⟨tg,iter,ifs,0⟩] scope pos) spos) (tAsg (tDc wi g tt tk tv (own.map (·.2))) (gName i)):=by
 refine ⟨fun pins s σ H D I h=>?_⟩;rw [exec_Assign_Name_used _ _ _ _ hsw];refine wpAny_bind (wpAny_standAt (wpAny_bind ?_));show wpAny _ X.A (do let _ <- comprehension (.DictComp kx vx [⟨tg,iter,ifs,0⟩] scope pos) scope X.env (firstIterPos [⟨tg,iter,ifs,0⟩] pos) newDict false (eval iter X.env) (some (assign (.Name y py) X.env))) _ _ s;have h:tDc wi g tt tk tv (own.map (·.2)) σ H (fun x H1=>gName i x σ H1 D.nx):=h;refine wpAny_bind (thn (dc_core (Qf:=fun _ s'=>SP X pins D .next s') hc hN I hi ok hg ht hk he hs h fun L C s' m H' I' q hn f=>?_) fun _ s' hq=>wpAny_pure (wpAny_pure hq));show wpAny _ _ (assign (.Name y py) X.env (.ref L)) _ _ _;refine wpAny_assign_Name (store_ok2 (v:=V.ref L) I' hN hy (.inl hyl) rfl (fun s2 I2 ⟨a,sb,ha⟩=>?_) (.inr hyl));obtain ⟨f0,f1,f2,f3,f4,f5⟩:=f;have haC:C ≠ a:=by
  rcases ha with z | z
  ·rw [z]; exact f1
  ·exact fun e=>f4 y a z e.symm
 refine ⟨m,hn.sameBut sb haC,fun h3 sb3=>?_⟩;exact ⟨_,H',I2.turned (t':=s2.toks) (fun b o hb e=>(sb3.2 b hb).trans e) f0 f1 f3 f4 f5,q⟩
theorem zbf {kx vx:Expr} {gs:List Comprehension} {scope:Scope} {pos py:Pos} {y:PySem.Str} {l:Nat} {env:Env} (hk:env.scope.kind=.function) (hy:env.scope.names.lookup y=some .local) (hl:(py.line == pos.line)=true)
  (ha:(scope.names.any fun (n,k)=>n == y&&(k == .local || k == .cell))=false):swapsWith (.DictComp kx vx gs scope pos) (some (.Name y py)) l env=pure true:=by
 have ky:env.kindOf y=some .local:=hy;have hb:env.blockKind=.function:=by unfold Env.blockKind; rw [hk]; rfl
 unfold swapsWith;simp only [hb,ky,ha,Expr.pos,hl]
 rfl
end
def adj (b:Bk) (n:Str):List Str:=match b.get n with
 | some k=>ledR k.rs
 | none=>[]
inductive EndK (b:Bk):Str->Prop
 | mk {n:Str}:(∀ k,k ∈ adj b n->EndK b k)->EndK b n
inductive Rch (b:Bk):Str->Str->Prop
 | one {n k:Str}:k ∈ adj b n->Rch b n k
 | step {n m k:Str}:Rch b n m->k ∈ adj b m->Rch b n k
section
variable {b:Bk}
theorem z98 {n:Str} {k:Kd} (h:b.get n=some k):adj b n=ledR k.rs:=by unfold adj; rw [h]
theorem z16 (ok:b.Ok) {n k:Str} (h:k ∈ adj b n):k ∈ b.names:=by
 unfold adj at h
 split at h
 ·rename_i kd e;exact ok.led (Bk.get_some e).1 k h
 ·cases h
theorem z1b {k:Kd} (ok:b.Ok) (hk:k ∈ b):adj b k.n=ledR k.rs:=z98 (Bk.get_self ok.nd hk)
theorem Rch.trans {n m k:Str} (h:Rch b n m) (g:Rch b m k):Rch b n k:=by
 induction g with
 | one e=>exact .step h e
 | step _ e ih=>exact .step ih e
theorem Rch.cons {n m k:Str} (h:m ∈ adj b n) (g:Rch b m k):Rch b n k:=(Rch.one h).trans g
theorem Rch.split {n k:Str} (h:Rch b n k):∃ m,m ∈ adj b n/\(m=k\/Rch b m k):=by
 induction h with
 | one e=>exact ⟨_,e,.inl rfl⟩
 | step _ e ih =>
  obtain ⟨m,hm,h⟩:=ih;refine ⟨m,hm,.inr ?_⟩;rcases h with h | h
  ·rw [h]; exact .one e
  ·exact .step h e
theorem EndK.next {n k:Str} (h:EndK b n) (e:k ∈ adj b n):EndK b k:=by
 cases h with
 | mk h=>exact h k e
theorem EndK.noring {n:Str} (h:EndK b n):¬ Rch b n n:=by
 induction h with
 | mk h ih =>
  intro g;obtain ⟨m,hm,e⟩:=g.split;refine ih m hm ?_;rcases e with e | e
  ·rw [e]; exact g
  ·exact .step e hm
end
inductive LedAll (K:Qn) (H:Hp):List (Key × V)->Bk->Prop
 | nil:LedAll K H [] []
 | cons {l:Addr} {ss:List Str} {k:Kd} {kvs:List (Key × V)} {b:Bk}:H l=some (.lst (ss.map V.str))->SrtOf ss (ledR k.rs)->LedAll K H kvs b->LedAll K H ((Sum.inr k.n,.ref l)::kvs) (k::b)
section
variable {K:Qn} {H H':Hp}
theorem LedAll.length:∀ {kvs:List (Key × V)} {b:Bk},LedAll K H kvs b->kvs.length=b.length
 | _,_,.nil=>rfl
 | _,_,.cons _ _ t=>congrArg (·+1) t.length
theorem LedAll.keep (h:∀ l xs,H l=some (.lst xs)->H' l=some (.lst xs)):∀ {kvs:List (Key × V)} {b:Bk},LedAll K H kvs b->LedAll K H' kvs b
 | _,_,.nil=>.nil
 | _,_,.cons a s t=>.cons (h _ _ a) s (LedAll.keep h t)
theorem LedAll.append:∀ {kvs kws:List (Key × V)} {b c:Bk},LedAll K H kvs b->LedAll K H kws c->LedAll K H (kvs++kws) (b++c)
 | _,_,_,_,.nil,h=>h
 | _,_,_,_,.cons a s t,h=>.cons a s (t.append h)
theorem LedAll.val {n:Str} {k:Kd}:∀ {kvs:List (Key × V)} {b:Bk},LedAll K H kvs b->b.get n=some k->∃ l ss,valV kvs (Sum.inr n)=some (.ref l)/\H l=some (.lst (ss.map V.str))/\SrtOf ss (ledR k.rs)
 | _,_,.nil,e=>by simp [Bk.get] at e
 | _,_,.cons (l:=l) (ss:=ss) (k:=kk) (b:=bb) a s t,e=>by
  by_cases h:kk.n=n
  ·have e':kk=k:=by
    have:Bk.get (kk::bb) n=some kk:=by simp [Bk.get,h]
    rw [this] at e; exact Yd e
   subst e';exact ⟨l,ss,valV_pos (by rw [h]),a,s⟩
  ·have e':Bk.get bb n=some k:=by
    unfold Bk.get at e;rw [List.find?_cons_of_neg (by simpa using h)] at e;exact e
   obtain ⟨l',ss',h1,h2,h3⟩:=t.val e';exact ⟨l',ss',by rw [valV_neg (fun z=>h (Sum.inr.inj z))]; exact h1,h2,h3⟩
theorem LedAll.get:∀ {kvs:List (Key × V)} {b:Bk} {i:Nat} {p:Key × V},LedAll K H kvs b->kvs[i]?=some p->∃ k,b[i]?=some k/\p.1=Sum.inr k.n
 | _,_,_,_,.nil,e=>by simp at e
 | _,_,0,_,.cons a s t,e=>by
  obtain rfl:=Yd e;exact ⟨_,rfl,rfl⟩
 | _,_,i+1,_,.cons a s t,e=>t.get (i:=i) e
end
def into (b:Bk) (es:List Str) (n:Str):Bool:=decide (n ∉ es)&&(adj b n).all fun k=>decide (k ∈ es)
def z5b (K:Qn):Sp:=fun vs H Q _=>∃ (d e:Addr) (b:Bk) (es:List Str) (kvs:List (Key × V)),vs=[.ref d,.ref e]/\H d=some (.dK kvs)/\LedAll K H kvs b/\H e=some (.lst (es.map V.str))/\b.Ok/\∀ (l:Addr) (H':Hp),SB [] H H'->H l=none->H' l=some (.lst ((b.names.filter (into b es)).map V.str))->Q (.ref l) H'
def z76 (K:Qn) (C N:Addr):Sp:=fun vs H Q E=>∃ (v:V) (b:Bk),vs=[v]/\BkA K C H v b/\b.Ok/\∀ (l:Addr) (ss:List Str) (H':Hp),SB [] H H'->H l=none->H' l=some (.lst (ss.map V.str))->sortedS ss=true->ss.Nodup->(∀ n,n ∈ ss ↔ n ∈ b.names/\¬ EndK b n)->Q (.ref l) H'
theorem SB.unlock {H H':Hp} {d:Addr} {od:Obj} {u:HO} (s:SB [] (upd H d (.frz od u)) H') (hd:H d=some u) (n1:∀ xs,u ≠ .tup xs) (n2:∀ o v,u ≠ .frz o v):SB [] H (upd H' d u):=by
 refine ⟨fun b o e _=>?_,fun b xs e=>?_,fun b o v e=>?_,fun b e=>?_⟩
 ·by_cases z:b=d
  ·rw [z,Qt]; rw [z,hd] at e; exact e
  ·rw [upd_ne z]; exact s.keep b o (by rw [upd_ne z]; exact e) nmn
 ·have z:b ≠ d:=fun z=>by rw [z,hd] at e; exact n1 _ (Yd e)
  rw [upd_ne z]; exact s.tups b xs (by rw [upd_ne z]; exact e)
 ·have z:b ≠ d:=fun z=>by rw [z,hd] at e; exact n2 _ _ (Yd e)
  rw [upd_ne z]; exact s.frzs b o v (by rw [upd_ne z]; exact e)
 ·have z:b ≠ d:=fun z=>by rw [z,Qt] at e; cases e
  rw [upd_ne z] at e;have:=s.dom b e
  rwa [upd_ne z] at this
theorem zdk {ss ks:List Str} (so:SrtOf ss ks) (p:Str->Bool):ss.all p=ks.all p:=by
 rw [Bool.eq_iff_iff,List.all_eq_true,List.all_eq_true];exact ⟨fun h x hx=>h x ((so.mem x).mpr hx),fun h x hx=>h x ((so.mem x).mp hx)⟩
theorem zgz {H:Hp} {d:Addr} {kvs:List (Key × V)} {n:Str} {v:V} (h:L2.Rd H d (.dK kvs)) (e:valV kvs (Sum.inr n)=some v):DGet H d (.str n) (some v):=.inl ⟨kvs,Sum.inr n,h,rfl,e.symm⟩
theorem LedAll.sb {K:Qn} {H H':Hp} {ps:List Addr} (e:SB ps H H'):∀ {kvs:List (Key × V)} {b:Bk},LedAll K H kvs b->(∀ p ∈ kvs,∀ q ∈ ps,p.2 ≠ .ref q)->LedAll K H' kvs b
 | _,_,.nil,_=>.nil
 | _,_,.cons a s t,h=>.cons (e.keep _ _ a fun z=>h _ mcs _ z rfl) s (LedAll.sb e t fun p hp=>h p (mcm _ hp))
theorem LedAll.ne {K:Qn} {H:Hp} {q:Addr} (hq:H q=none):∀ {kvs:List (Key × V)} {b:Bk},LedAll K H kvs b->∀ p ∈ kvs,p.2 ≠ .ref q
 | _,_,.nil,p,hp=>by cases hp
 | _,_,.cons a s t,p,hp=>by
  rcases Qv hp with e | e
  ·rw [e];intro z;rw [V.ref.inj z] at a;rw [a] at hq; cases hq
  ·exact LedAll.ne hq t p e
theorem LedAll.keys {K:Qn} {H:Hp}:∀ {kvs:List (Key × V)} {b:Bk},LedAll K H kvs b->kvs.map (·.1)=b.names.map Sum.inr
 | _,_,.nil=>rfl
 | _,_,.cons a s t=>by rw [List.map_cons,LedAll.keys t]; rfl
theorem za0 {b:Bk} (ok:b.Ok) {es:List Str} (h:b.names.filter (into b es)=[]) {n:Str} (e:EndK b n):n ∈ b.names->n ∈ es:=by
 induction e with
 | @mk n _ ih =>
  intro hn;refine Classical.byContradiction fun z=>?_;have:n ∈ b.names.filter (into b es):=List.mem_filter.mpr ⟨hn,by
   unfold into;rw [Bool.and_eq_true,decide_eq_true_eq,List.all_eq_true];exact ⟨z,fun k hk=>Ya (ih k hk (z16 ok hk))⟩⟩
  rw [h] at this; cases this
section
variable {J:It} {n:Nat} {G:Hp->Prop} {Y:Nat->Hp->V->Hp->Prop}
theorem zdb (w:Walk J n G Y) {g:TG} {tt:TT} {tk tv:TE} {vs:List Nat} {σ:L2.St} {H:Hp} {D:Addr} {Qd:Hp->Prop} (hD:H D=none) (hn:n < sizeLine) (R:Nat->List (Key × V)->Hp->Prop) (h0:R 0 [] H) (hG:∀ H2,SB [] H H2->G H2)
  (st:∀ i us H2 H3,SB [D] H2 H3->R i us H2->R i us H3)
  (turn:∀ (Pv:Hp->Prop) i x H2 H' kvs,i < n->SB [] H H2->Y i H2 x H'->R i kvs H2->kvs.length<=i->H2 D=some (.dK kvs)->(∀ k z H5,SB [] H2 H5->R (i+1) (putK kvs k z) H5->∃ kvs k',kV k=kV k'/\H5 D=some (.dK kvs)/\kvs.length < sizeLine/\Pv (upd H5 D (.dK (putK kvs k' z)))) ->
   (∀ H4,SB [] H2 H4->R (i+1) kvs H4->Pv H4)->g x (wipe σ vs) H' fun σ2 H3=>wipe σ2 vs=wipe σ vs/\tt σ2 H3 fun b H4 =>
    if b=true then tk σ2 H4 fun y H5=>tv σ2 H5 fun z H6=>∃ kvs k,y=kV k/\H6 D=some (.dK kvs)/\kvs.length < sizeLine/\Pv (upd H6 D (.dK (putK kvs k z))) else Pv H4)
  (done:∀ kvs H2,SB [] H H2->H2 D=some (.dK kvs)->R n kvs H2->kvs.length<=n->Qd H2) :
  ∃ W:Nat->Nat->Hp->Prop,(∃ m,W 0 m (upd H D (.dK [])))/\∀ i m H,W i m H ->
   (J.stop i H/\Qd H)\/(J.go i H/\∃ Nx:Hp->Prop,(∀ H',Nx H'->∃ m',m' < m/\W (i+1) m' H')/\∀ x H',J.yld i H x H'->g x (wipe σ vs) H' fun σ2 H2=>wipe σ2 vs=wipe σ vs/\tt σ2 H2 fun b H3 =>
    if b=true then tk σ2 H3 fun y H4=>tv σ2 H4 fun z H5=>∃ kvs k,y=kV k/\H5 D=some (.dK kvs)/\kvs.length < sizeLine/\Nx (upd H5 D (.dK (putK kvs k z))) else Nx H3):=by
 refine lcG (body:=fun Nx x H'=>g x (wipe σ vs) H' fun σ2 H2=>wipe σ2 vs=wipe σ vs/\tt σ2 H2 fun b H3 =>
    if b=true then tk σ2 H3 fun y H4=>tv σ2 H4 fun z H5=>∃ kvs k,y=kV k/\H5 D=some (.dK kvs)/\kvs.length < sizeLine/\Nx (upd H5 D (.dK (putK kvs k z))) else Nx H3) w (fun i H2=>SB [D] H H2/\∃ kvs,H2 D=some (.dK kvs)/\R i kvs H2/\kvs.length<=i)
  ⟨SB.new hD _,[],Qt,st _ _ _ _ (SB.new hD _) h0,Yc _⟩ (fun i H2 _ h=>hG H2 (h.1.drop hD)) (fun i x H2 H' hi h y=>?_) (fun H2 h=>?_)
 ·obtain ⟨s2,kvs,hD2,hR,hl⟩:=h;refine turn _ i x H2 H' kvs hi (s2.drop hD) y hR hl hD2 (fun k z H5 s5 r5=>?_) (fun H4 s4 r4=>⟨s2.trans s4.nil,kvs,s4.keep _ _ hD2 nmn,r4,by omega⟩);have hD5:=s5.keep _ _ hD2 nmn;refine ⟨kvs,k,rfl,hD5,by omega,(s2.trans s5.nil).trans (SB.setD hD5 (by simp) _),_,Qt,st _ _ _ _ (SB.setD hD5 (by simp) _) r5,?_⟩;have:=length_putK kvs k z;omega
 ·obtain ⟨s2,kvs,hD2,hR,hl⟩:=h;exact done kvs H2 (s2.drop hD) hD2 hR hl
end
theorem z9u {b:Bk} (nd:b.names.Nodup) {i:Nat} {k:Kd} (ek:b[i]?=some k):k.n ∉ Bk.names (b.take i):=by
 have e:b=b.take i++k::b.drop (i+1):=by
  have hl:i < b.length:=(List.getElem?_eq_some_iff.mp ek).1;have:=List.drop_eq_getElem_cons hl;rw [(List.getElem?_eq_some_iff.mp ek).2] at this;rw [<- this,List.take_append_drop]
 have h:b.names=Bk.names (b.take i)++k.n::Bk.names (b.drop (i+1)):=by
  conv=>lhs; rw [e]
  rw [Bk.names,Yj]; rfl
 rw [h] at nd;exact fun z=>(List.nodup_append.mp nd).2.2 _ z _ mcs rfl
variable {K:Qn} {H H':Hp}
mutual
theorem zcx (e:∀ a xs,SqT K H a xs->SqT K H' a xs):∀ (d:PyData) (v:V),z09 d=true->Dp K H v d->Dp K H' v d
 | .none,_,_,h=>by cases h; exact .non
 | .bool b,_,_,h=>by cases h; exact .bl b
 | .int i,_,_,h=>by cases h; exact .int i
 | .str x,_,_,h=>by cases h; exact .str x
 | .list ds,_,n,_=>by simp [z09] at n
 | .dict ds,_,n,_=>by simp [z09] at n
 | .tuple ds,_,n,h=>by
  cases h with
  | tup hs ha=>exact .tup (e _ _ hs) (z7z e ds _ (by simpa [z09] using n) ha)
theorem z7z (e:∀ a xs,SqT K H a xs->SqT K H' a xs):∀ (ds:List PyData) (vs:List V),z0c ds=true->DpAll K H vs ds->DpAll K H' vs ds
 | [],_,_,h=>by cases h; exact .nil
 | d::ds,_,n,h=>by
  cases h with
  | cons h1 h2 =>
   simp [z0c] at n;exact .cons (zcx e d _ n.1 h1) (z7z e ds _ n.2 h2)
end
theorem Bears.tp {β:Type} {enc:β->PyData} (e:∀ a xs,SqT K H a xs->SqT K H' a xs) (hn:∀ b,z09 (enc b)=true):∀ {xs:List V} {bs:List β},Bears K H enc xs bs->Bears K H' enc xs bs
 | _,_,.nil=>.nil
 | _,_,.cons a b=>.cons (zcx e _ _ (hn _) a) (Bears.tp e hn b)
theorem z4a {D:Addr} {od:Obj} {kvs:List (Key × V)} {u:HO} (h:H D=some (.frz od (.dK kvs))) (a:Addr) (xs:List V) (s:SqT K H a xs):SqT K (upd H D u) a xs:=by
 rcases s with (s | ⟨o,s⟩) | s
 ·exact .inl (.inl (by rw [upd_ne (fun z=>by rw [z,h] at s; cases s)]; exact s))
 ·exact .inl (.inr ⟨o,by rw [upd_ne (fun z=>by rw [z,h] at s; cases s)]; exact s⟩)
 ·exact .inr s
theorem z0f {γ:Type} [DecidableEq γ] (p:γ × Int) (r:List (γ × Int)) (x:γ):sumE (p::r) x=(if p.1=x then p.2 else 0)+sumE r x:=rfl
namespace Gr
def woL (t:Tr) (m:Int):List (Tr × Int)->List (Tr × Int)
 | []=>[]
 | p::r=>if p.1 ≠ t then p::woL t m r else if m < p.2 then (p.1,p.2-m)::woL t m r else woL t m r
theorem woL_none {t:Tr} {m:Int}:∀ {bs:List (Tr × Int)},(∀ p ∈ bs,p.1 ≠ t)->woL t m bs=bs
 | [],_=>rfl
 | p::r,h=>by
  rw [woL,if_pos (h p (by simp)),woL_none fun q hq=>h q (by simp [hq])]
theorem woL_mem {t:Tr} {m:Int} (hm:0<=m):∀ {bs:List (Tr × Int)} {p:Tr × Int},p ∈ woL t m bs->∃ q ∈ bs,q.1=p.1/\p.2<=q.2/\(1<=q.2->1<=p.2)
 | [],_,h=>nomatch h
 | q::r,p,h=>by
  rw [woL] at h
  split at h
  ·rcases Qv h with e | h
   ·exact ⟨q,by simp,by rw [e],by rw [e]; exact Int.le_refl _,by rw [e]; exact id⟩
   ·obtain ⟨q',h1,h2⟩:=woL_mem hm h; exact ⟨q',by simp [h1],h2⟩
  ·split at h
   ·rcases Qv h with e | h
    ·exact ⟨q,by simp,by rw [e],by rw [e]; show q.2-m<=q.2; omega,by rw [e]; show _->1<=q.2-m; omega⟩
    ·obtain ⟨q',h1,h2⟩:=woL_mem hm h; exact ⟨q',by simp [h1],h2⟩
   ·obtain ⟨q',h1,h2⟩:=woL_mem hm h; exact ⟨q',by simp [h1],h2⟩
theorem woL_key {t:Tr} {m:Int}:∀ {bs:List (Tr × Int)} {p:Tr × Int},p ∈ woL t m bs->∃ q ∈ bs,q.1=p.1
 | [],_,h=>nomatch h
 | q::r,p,h=>by
  rw [woL] at h
  split at h
  ·rcases Qv h with e | h
   ·exact ⟨q,by simp,by rw [e]⟩
   ·obtain ⟨q',h1,h2⟩:=woL_key h; exact ⟨q',by simp [h1],h2⟩
  ·split at h
   ·rcases Qv h with e | h
    ·exact ⟨q,by simp,by rw [e]⟩
    ·obtain ⟨q',h1,h2⟩:=woL_key h; exact ⟨q',by simp [h1],h2⟩
   ·obtain ⟨q',h1,h2⟩:=woL_key h; exact ⟨q',by simp [h1],h2⟩
theorem woL_pair {R:Tr->Tr->Prop} {t:Tr} {m:Int}:∀ {bs:List (Tr × Int)},bs.Pairwise (fun p q=>R p.1 q.1)->(woL t m bs).Pairwise (fun p q=>R p.1 q.1)
 | [],_=>.nil
 | p::r,h=>by
  obtain ⟨h1,h2⟩:=List.pairwise_cons.mp h;have ih:=woL_pair (t:=t) (m:=m) h2;have hk:∀ q ∈ woL t m r,R p.1 q.1:=fun q hq=>by
   obtain ⟨q',hq',e⟩:=woL_key hq;rw [<- e]; exact h1 q' hq'
  rw [woL]
  split
  ·exact List.pairwise_cons.mpr ⟨hk,ih⟩
  ·split
   ·exact List.pairwise_cons.mpr ⟨hk,ih⟩
   ·exact ih
theorem woL_tot (t:Tr) (m:Int):∀ bs:List (Tr × Int),tot (woL t m bs)<=tot bs
 | []=>Yc _
 | p::r=>by
  have ih:=woL_tot t m r;rw [woL]
  split
  ·simp only [tot]; omega
  ·split
   ·simp only [tot]; omega
   ·simp only [tot]; omega
theorem sumE_woL {t:Tr} {m:Int} (x:Tr):∀ {bs:List (Tr × Int)},bs.Pairwise (fun p q=>p.1 ≠ q.1)->(∀ p ∈ bs,0 < p.2)->0<=m->sumE (woL t m bs) x=if x=t then (if m < sumE bs t then sumE bs t-m else 0) else sumE bs x
 | [],_,_,hm=>by
  show (0:Int)=if x=t then (if m < 0 then 0-m else 0) else 0
  split
  ·rw [if_neg (by omega)]
  ·rfl
 | p::r,h,hp,hm=>by
  obtain ⟨h1,h2⟩:=List.pairwise_cons.mp h;have ih:=sumE_woL (t:=t) (m:=m) x h2 (fun q hq=>hp q (by simp [hq])) hm;rw [woL];by_cases e:p.1=t
  ·rw [if_neg (by simpa using e)];have hr:∀ q ∈ r,q.1 ≠ t:=fun q hq z=>h1 q hq (by rw [e,z]);have z0:sumE r t=0:=S_zero hr;rw [woL_none hr,z0f p r t,if_pos e,z0,Int.add_zero];by_cases hlt:m < p.2
   ·rw [if_pos hlt,if_pos hlt,z0f];by_cases hx:x=t
    ·rw [if_pos hx,hx,if_pos (by exact e),z0]; simp
    ·rw [if_neg hx,if_neg (by rw [e]; exact fun z=>hx z.symm),z0f,if_neg (by rw [e]; exact fun z=>hx z.symm)]
   ·rw [if_neg hlt,if_neg hlt];by_cases hx:x=t
    ·rw [if_pos hx,hx,z0]
    ·rw [if_neg hx,z0f,if_neg (by rw [e]; exact fun z=>hx z.symm),Int.zero_add]
  ·rw [if_pos e,z0f,ih,z0f p r t,if_neg e,Int.zero_add];by_cases hx:x=t
   ·rw [if_pos hx,if_pos hx,hx,if_neg e,Int.zero_add]
   ·rw [if_neg hx,if_neg hx,z0f]
def wo (g:Gr) (t:Tr) (m:Int):Gr:=ofPs (woL t m g.ps)
theorem wo_ps (g:Gr) (t:Tr) (m:Int):(wo g t m).ps=woL t m g.ps:=ps_ofPs _
variable {C D E:Int} {g k:Gr}
theorem ok_ne (h:g.Ok C):g.ps.Pairwise (fun p q=>p.1 ≠ q.1):=(ok_iff.mp h).2.imp fun z=>zcr z
theorem ok_pos (h:g.Ok C):∀ p ∈ g.ps,0 < p.2:=fun p hp=>by have:=((ok_iff.mp h).1 p hp).2.2.1; omega
theorem wo_ok (h:g.Ok C) {t:Tr} {m:Int} (hm:0<=m):(wo g t m).Ok C:=by
 obtain ⟨h1,h2⟩:=ok_iff.mp h;refine ok_ps.mpr ⟨fun p hp=>?_,woL_pair (R:=fun a b=>dataLt (tEnc a) (tEnc b)=true) h2⟩;obtain ⟨q,hq,e,l,o⟩:=woL_mem hm hp;obtain ⟨a,b,c,d⟩:=h1 q hq;rw [<- e];exact ⟨a,b,o c,by omega⟩
theorem S_wo (h:g.Ok C) {t:Tr} {m:Int} (hm:0<=m) (x:Tr):S (wo g t m) x=if x=t then (if m < S g t then S g t-m else 0) else S g x:=by
 show sumE (wo g t m).ps x=_;rw [wo_ps]; exact sumE_woL x (ok_ne h) (ok_pos h) hm
theorem wo_parts (g:Gr) (t:Tr) (m:Int):(wo g t m).parts<=g.parts:=by
 rw [wo,parts_ofPs,<- tot_ps g]; exact woL_tot _ _ _
theorem wo_deep (g:Gr) (t:Tr) (m:Int):(wo g t m).deep<=g.deep:=by
 refine deep_le fun p hp=>?_;rw [wo_ps] at hp;obtain ⟨q,hq,e⟩:=woL_key hp;rw [<- e]; exact mem_deep g q hq
theorem sumE_mem:∀ {bs:List (Tr × Int)},bs.Pairwise (fun p q=>p.1 ≠ q.1)->∀ p ∈ bs,sumE bs p.1=p.2
 | [],_,_,h=>nomatch h
 | q::r,h,p,hp=>by
  obtain ⟨h1,h2⟩:=List.pairwise_cons.mp h;rw [z0f];rcases Qv hp with e | hp
  ·rw [e,if_pos rfl,S_zero fun q' hq' z=>h1 q' hq' z.symm,Int.add_zero]
  ·rw [if_neg (h1 p hp),Int.zero_add]; exact sumE_mem h2 p hp
theorem S_mem (h:g.Ok C) {p:Tr × Int} (hp:p ∈ g.ps):S g p.1=p.2:=sumE_mem (ok_ne h) p hp
theorem S_cases (h:g.Ok C) (x:Tr):(S g x=0/\∀ p ∈ g.ps,p.1 ≠ x)\/∃ m,(x,m) ∈ g.ps/\S g x=m/\1<=m/\m < C:=by
 by_cases e:∃ p ∈ g.ps,p.1=x
 ·obtain ⟨p,hp,rfl⟩:=e;obtain ⟨_,_,c,d⟩:=(ok_iff.mp h).1 p hp;exact .inr ⟨p.2,hp,S_mem h hp,c,d⟩
 ·have h':∀ p ∈ g.ps,p.1 ≠ x:=fun p hp z=>e ⟨p,hp,z⟩;exact .inl ⟨S_zero h',h'⟩
theorem S_nonneg (h:g.Ok C) (x:Tr):0<=S g x:=by
 rcases S_cases h x with ⟨e,_⟩ | ⟨m,_,e,h1,_⟩
 ·omega
 ·omega
theorem S_lt (h:g.Ok C) (hC:1<=C) (x:Tr):S g x < C:=by
 rcases S_cases h x with ⟨e,_⟩ | ⟨m,_,e,_,h1⟩
 ·omega
 ·omega
theorem tgt_okM (hg:∀ p ∈ g.ps,z03 p.1.1/\p.1.2.Ok E/\1<=p.2) (hk:∀ p ∈ k.ps,z03 p.1.1/\p.1.2.Ok E/\1<=p.2) (h:∀ t,S g t+S k t < E):(tgt g k).Ok E:=by
 have hr:=z8i (enc:=tEnc) (g.ps++k.ps);have hall:∀ p ∈ g.ps++k.ps,z03 p.1.1/\p.1.2.Ok E/\1<=p.2:=fun p hp=>(Qw hp).elim (hg p) (hk p);refine ok_ps.mpr ⟨fun p hp=>?_,hr⟩;obtain ⟨q,hq,e⟩:=z1m (enc:=tEnc) _ p hp;obtain ⟨a,b,_⟩:=hall q hq;have h1:=(z9l (enc:=tEnc) (fun p hp=>(hall p hp).2.2) p hp).1;have e2:sumE (tdy tEnc (g.ps++k.ps)) p.1=p.2:=sumE_mem (hr.imp fun z=>zcr z) p hp;rw [z1w,z0g] at e2;have:=h p.1;refine ⟨e ▸ a,e ▸ b,h1,?_⟩;show p.2 < E;rw [<- e2]; exact this
theorem ok_three (h:g.Ok C) (hC:C<=E):∀ p ∈ g.ps,z03 p.1.1/\p.1.2.Ok E/\1<=p.2:=fun p hp=>by
 obtain ⟨a,b,c,_⟩:=(ok_iff.mp h).1 p hp;exact ⟨a,b.mono hC,c⟩
theorem tgt_ok2 (hg:g.Ok C) (hk:k.Ok D) (hC:1<=C) (hD:1<=D):(tgt g k).Ok (C+D):=by
 refine tgt_okM (ok_three hg (by omega)) (ok_three hk (by omega)) fun t=>?_;have:=S_lt hg hC t;have:=S_lt hk hD t;omega
theorem tgt_nil (hg:g.Ok C):tgt g .nil=g:=by
 have hS:∀ t,S (tgt g .nil) t=S g t:=fun t=>by rw [S_tgt]; exact Int.add_zero _
 cases g with
 | nil=>exact ext (tgt_ok2 (C:=1) (D:=1) (g:=.nil) (k:=.nil) trivial trivial (by omega) (by omega)) hg hS
 | cons n h m r =>
  have hC:1<=C:=by have:=hg.2.2.1; have:=hg.2.2.2.1; omega
  exact ext (tgt_ok2 hg (k:=.nil) (D:=1) trivial hC (by omega)) hg hS
def tmsL (m:Int) (bs:List (Tr × Int)):List (Tr × Int):=bs.map fun p=>(p.1,p.2*m)
def tmsG (g:Gr) (m:Int):Gr:=if m=0 then .nil else ofPs (tmsL m g.ps)
theorem tot_tms (m:Int):∀ bs:List (Tr × Int),tot (tmsL m bs)=tot bs
 | []=>rfl
 | p::r=>by
  show 1+p.1.2.parts+tot (tmsL m r)=1+p.1.2.parts+tot r;rw [tot_tms m r]
theorem tms_parts (g:Gr) (m:Int):(tmsG g m).parts<=g.parts:=by
 rw [tmsG]
 split
 ·exact Nat.zero_le _
 ·rw [parts_ofPs,tot_tms,tot_ps]; exact Yc _
theorem tms_len (g:Gr) (m:Int):(tmsG g m).ps.length<=g.ps.length:=by
 rw [tmsG]
 split
 ·exact Nat.zero_le _
 ·rw [ps_ofPs,tmsL,Ye]; exact Yc _
theorem tms_key {m:Int} {p:Tr × Int} (hp:p ∈ (tmsG g m).ps):∃ q ∈ g.ps,q.1=p.1:=by
 rw [tmsG] at hp
 split at hp
 ·exact nomatch hp
 ·rw [ps_ofPs] at hp;obtain ⟨q,hq,e⟩:=Qx hp;exact ⟨q,hq,by rw [<- e]⟩
theorem tms_ok (h:g.Ok C) (hC:1<=C) {m:Int} (hm:0<=m):(tmsG g m).Ok (C*m+C):=by
 have hle:C<=C*m+C:=by have:=Int.mul_nonneg (show (0:Int)<=C by omega) hm; omega
 rw [tmsG]
 split
 ·trivial
 ·obtain ⟨h1,h2⟩:=ok_iff.mp h;refine ok_ps.mpr ⟨fun p hp=>?_,?_⟩
  ·obtain ⟨q,hq,rfl⟩:=Qx hp;obtain ⟨a,b,c,d⟩:=h1 q hq;have m1:1<=m:=by omega
   refine ⟨a,b.mono hle,?_,?_⟩
   ·show 1<=q.2*m;have:=Int.mul_le_mul c m1 (by omega) (by omega);omega
   ·show q.2*m < C*m+C;have:=Int.mul_le_mul_of_nonneg_right (show q.2<=C by omega) hm;omega
  ·exact List.pairwise_map.mpr (h2.imp fun z=>z)
def pos (g:Gr) (t:Tr):Nat:=(g.ps.map (·.1)).idxOf t
def Named (ns:List Str) (g:Gr):Prop:=∀ x ∈ g.within,x.1.1 ∈ ns
theorem named_iff {ns:List Str}:Named ns g ↔ ∀ p ∈ g.ps,p.1.1 ∈ ns/\Named ns p.1.2:=by
 unfold Named;rw [within_ps];constructor
 ·intro h p hp;exact ⟨h p (List.mem_flatMap.mpr ⟨p,hp,by simp⟩),fun x hx=>h x (List.mem_flatMap.mpr ⟨p,hp,by simp [hx]⟩)⟩
 ·intro h x hx;obtain ⟨p,hp,hx⟩:=List.mem_flatMap.mp hx;rcases Qv hx with e | hx
  ·rw [e]; exact (h p hp).1
  ·exact (h p hp).2 x hx
theorem named_wo {ns:List Str} (h:Named ns g) (t:Tr) (m:Int):Named ns (wo g t m):=named_iff.mpr fun p hp=>by
 rw [wo_ps] at hp;obtain ⟨q,hq,e⟩:=woL_key hp;rw [<- e]; exact named_iff.mp h q hq
theorem named_tms {ns:List Str} (h:Named ns g) (m:Int):Named ns (tmsG g m):=named_iff.mpr fun p hp=>by
 obtain ⟨q,hq,e⟩:=tms_key hp;rw [<- e]; exact named_iff.mp h q hq
theorem named_tgt {ns:List Str} (h:Named ns g) (h2:Named ns k):Named ns (tgt g k):=named_iff.mpr fun p hp=>by
 rw [tgt_ps] at hp;obtain ⟨q,hq,e⟩:=z1m (enc:=tEnc) _ p hp;rw [<- e];rcases Qw hq with hq | hq
 ·exact named_iff.mp h q hq
 ·exact named_iff.mp h2 q hq
def one (t:Tr) (m:Int):Gr:=.cons t.1 t.2 m .nil
theorem one_ps (t:Tr) (m:Int):(one t m).ps=[(t,m)]:=rfl
theorem S_one (t:Tr) (m:Int) (x:Tr):S (one t m) x=if t=x then m else 0:=by
 show sumE [(t,m)] x=_;rw [z0f]; exact Int.add_zero _
theorem one_ok {t:Tr} {m:Int} (h1:z03 t.1) (h2:t.2.Ok C) (h3:1<=m) (h4:m < C):(one t m).Ok C:=⟨h1,h2,h3,h4,trivial,fun _ h=>nomatch h⟩
theorem named_one {ns:List Str} {t:Tr} (h:t.1 ∈ ns) (h2:Named ns t.2) (m:Int):Named ns (one t m):=named_iff.mpr fun p hp=>by
 rw [one_ps] at hp;rw [Qy hp]; exact ⟨h,h2⟩
end Gr
def Wd (d:PyData):Prop:=d.canLay0=true/\d.depth<=190
theorem Wd.of {d:PyData} (h:SeqAt.shaped d=true):Wd d:=⟨SeqAt.canLay_of_shaped h,by have:=SeqAt.depth_of_shaped h; omega⟩
def rNeW (K:Qn):R2:=fun x y H Q=>∃ d e,Dp K H x d/\Dp K H y e/\Wd d/\Wd e/\Q (.bl (!PyData.eqv d e)) H
section
variable {X:Cx}
theorem zfm {n:Nat} {d e:PyData} (hd:Wd d) (hu:n+195 < cLine):n+min d.depth e.depth < cLine:=by
 have h1:=hd.2;have h2:min d.depth e.depth<=d.depth:=Nat.min_le_left ..;omega
theorem zg2 (hu:X.A.units+195 < cLine):OpR X (compareOp .NotEq) (rNeW X.K):=by
 intro pn s σ H a b v1 v2 Q I ra rb ⟨d,e,da,db,wd,we,q⟩;obtain ⟨l1,k1⟩:=Dp.reads I d a v1 da ra;obtain ⟨l2,k2⟩:=Dp.reads I e b v2 db rb;exact SeqAt.compareNe_reads k1 k2 wd.1 we.1 (zfm wd hu) ⟨.bl _,H,I,rfl,q⟩
def zds (K:Qn):V->List V->Hp->VK->Prop:=fun x xs H Q=>∃ (a:Addr) (y:V) (d:PyData) (ds:List PyData) (j:Nat) (z:PyData),x=V.ref a/\xs=[y]/\Dp K H (V.ref a) (.list ds)/\Dp K H y d /\
 PyData.canLayAll0 ds=true/\Wd d/\ds[j]?=some z/\PyData.eqv z d=true/\(∀ (m:Nat) (z':PyData),m < j->ds[m]?=some z'->PyData.eqv z' d=false)/\Q (.int (j:Nat)) H
theorem z7i (hu:X.A.units+196 < cLine):MtR X "list.index" (zds X.K):=by
 intro pn s σ H x xs v us Q I rx rs ⟨a,y,d,ds,j,z,ex,exs,dl,dy,lay,wd,ez,eqz,before,q⟩;subst ex exs;cases rx;cases rs with
 | cons ry rt =>
  rename_i uy ut;cases rt;obtain ⟨ls,k1⟩:=Dp.reads I d y uy dy ry;have room:X.A.units+1+min (PyData.depthAll ds) d.depth < cLine:=by
   have h1:=wd.2;have h2:min (PyData.depthAll ds) d.depth<=d.depth:=Nat.min_le_right ..;omega
  cases dl with
  | lst dh da =>
   obtain ⟨its,vals,⟨⟨c1,c2,c3,c4⟩,cnt,hget,hcls,hdict,hdata⟩,hlen⟩:=I.list dh;simp only at hcls hdata;subst hcls hdata;obtain ⟨ms,k2⟩:=Dp.readsAll I ds _ its da vals;have el:its.length=ds.length:=SeqAt.ReadsAll.length ds its ms k2;have em:its.map (SeqAt.readOf s.heap)=ds:=SeqAt.readsAll_map ds its ms lay k2;have szl:=sizeLine_eq;have vlen:=vals.length;obtain ⟨jd,_⟩:=List.getElem?_eq_some_iff.mp ez;have jl:j < its.length:=by omega
   have ja:j < its.toArray.size:=by simpa using jl
   have look:∀ (m:Nat) (hm:m < its.toArray.size) (z':PyData),ds[m]?=some z'->SeqAt.readOf s.heap its.toArray[m]=z':=by
    intro m hm z' e;have hm':m < its.length:=by simpa using hm
    rw [<- em,List.getElem?_map,List.getElem?_eq_getElem hm'] at e;have e':=Yd (show some (SeqAt.readOf s.heap its[m])=some z' from e);simpa using e'
   refine call_meets PySem.F.slot_list_index ⟨_,hget,rfl⟩ PySem.F.entry_list_index (PySem.F.args_list_index_2 _ _)
    (SeqAt.list_indexAt a its.toArray cnt c2 c4 uy (fun u=>PyData.eqv (SeqAt.readOf s.heap u) d) j ja (by omega) ?_ ?_) ⟨hget,SeqAt.items_eqAt (vs:=its.toArray) (show ReadsAll s.heap its.toArray.toList ds ms from k2) k1 lay wd.1 room,?_⟩
   ·show PyData.eqv (SeqAt.readOf s.heap its.toArray[j]) d=true;rw [look j ja z ez]; exact eqz
   ·intro m hm hmj;have e:ds[m]?=some ds[m]:=List.getElem?_eq_getElem (show m < ds.length by omega);show PyData.eqv (SeqAt.readOf s.heap its.toArray[m]) d=false;rw [look m hm _ e]; exact before m _ hmj e
   ·exact ⟨.int (j:Nat),H,I.tok _,⟨_,rfl⟩,q⟩
end
def Bk.far (b:Bk) (k:Str) (n:Int):Int:=match b.get k with
 | some kd=>if kd.w=true then n else 0
 | none=>0
theorem Bk.far_le (b:Bk) (k:Str) {n:Int} (h:0<=n):0<=b.far k n/\b.far k n<=n:=by
 unfold Bk.far
 split
 ·split <;> omega
 ·omega
namespace Gr
variable {b:Bk} {n:Int} {C F E:Int} {g fr:Gr}
def grw (r:Ru) (n:Int):Gr:=tgt r.1 (tmsG r.2 n)
theorem grw_ok {r:Ru} (h:RuOk r) (hn:0<=n):(grw r n).Ok (1000000001*n+2000000002):=by
 have h2:=tms_ok h.2.1 (by omega) hn;exact (tgt_ok2 h.1 h2 (by omega) (by omega)).mono (by omega)
theorem grw_parts {r:Ru} (h:RuOk r) (n:Int):(grw r n).parts<=4:=by
 have h1:=tgt_parts r.1 (tmsG r.2 n);have h2:=tms_parts r.2 n;have h3:=h.2.2;unfold grw;omega
theorem grw_deep {r:Ru} (h:RuOk r) (n:Int):(grw r n).deep<=4:=by
 have h1:=z07 (grw r n);have h2:=grw_parts h n;omega
theorem grw_named {r:Ru} {ns:List Str} (h:∀ p ∈ Ru.within r,p.1.1 ∈ ns) (n:Int):Named ns (grw r n) :=
 named_tgt (fun x hx=>h x (mal _ hx)) (named_tms (fun x hx=>h x (mar _ hx)) n)
def stk (b:Bk) (n:Int) (fr:Gr):Pl->Gr->Gr × Pl
 | [],g=>(g,[])
 | i::r,g=>match g.ps[i]? with
  | none=>(g,[])
  | some p=>if r=[] then (tgt (wo g p.1 1) fr,[]) else
    (tgt (wo g p.1 1) (one (p.1.1,(stk b n fr r p.1.2).1) (1+b.far p.1.1 n)),pos (tgt (wo g p.1 1) (one (p.1.1,(stk b n fr r p.1.2).1) (1+b.far p.1.1 n))) (p.1.1,(stk b n fr r p.1.2).1)::(stk b n fr r p.1.2).2)
def bareAt:Gr->Pl->Option Str
 | _,[]=>none
 | g,i::r=>match g.ps[i]? with
  | none=>none
  | some p=>if r=[] then (if p.1.2=.nil then some p.1.1 else none) else bareAt p.1.2 r
theorem stk_one {i:Nat} {p:Tr × Int} (e:g.ps[i]?=some p):stk b n fr [i] g=(tgt (wo g p.1 1) fr,[]):=by
 rw [stk,e]; rfl
def chg (b:Bk) (n:Int) (fr:Gr) (r:Pl) (p:Tr × Int):Tr:=(p.1.1,(stk b n fr r p.1.2).1)
def chR (b:Bk) (n:Int) (fr:Gr) (r:Pl) (g:Gr) (p:Tr × Int):Gr:=tgt (wo g p.1 1) (one (chg b n fr r p) (1+b.far p.1.1 n))
theorem stk_more {i:Nat} {r:Pl} {p:Tr × Int} (e:g.ps[i]?=some p) (hr:r ≠ []):stk b n fr (i::r) g=(chR b n fr r g p,pos (chR b n fr r g p) (chg b n fr r p)::(stk b n fr r p.1.2).2):=by
 rw [stk,e];simp only [if_neg hr]
 rfl
theorem bare_one {i:Nat} {k:Str} (h:bareAt g [i]=some k):∃ p,g.ps[i]?=some p/\p.1=(k,.nil):=by
 rw [bareAt] at h;cases e:g.ps[i]? with
 | none=>rw [e] at h; cases h
 | some p =>
  rw [e] at h;simp only [if_true] at h;by_cases z:p.1.2=.nil
  ·rw [if_pos z] at h;exact ⟨p,rfl,Prod.ext (Yd h) z⟩
  ·rw [if_neg z] at h; cases h
theorem bare_more {i:Nat} {r:Pl} {k:Str} (hr:r ≠ []) (h:bareAt g (i::r)=some k):∃ p,g.ps[i]?=some p/\bareAt p.1.2 r=some k:=by
 rw [bareAt] at h;cases e:g.ps[i]? with
 | none=>rw [e] at h; cases h
 | some p =>
  rw [e] at h;simp only [if_neg hr] at h;exact ⟨p,rfl,h⟩
theorem bare_ne {pl:Pl} {k:Str} (h:bareAt g pl=some k):pl ≠ []:=fun z=>by rw [z] at h; cases h
theorem wo_okM {t:Tr} {m:Int} (h:g.Ok C) (hm:0<=m) (hC:C<=E):∀ p ∈ (wo g t m).ps,z03 p.1.1/\p.1.2.Ok E/\1<=p.2:=ok_three (wo_ok h hm) hC
theorem S_wo_le (h:g.Ok C) {t:Tr} {m:Int} (hm:0<=m) (x:Tr):S (wo g t m) x<=S g x:=by
 rw [S_wo h hm]
 split
 ·next e=>
  subst e;have:=S_nonneg h x
  split <;> omega
 ·exact Int.le_refl _
theorem ok_mem (h:g.Ok C) {p:Tr × Int} (hp:p ∈ g.ps):z03 p.1.1/\p.1.2.Ok C/\1<=p.2/\p.2 < C:=(ok_iff.mp h).1 p hp
theorem C_pos {p:Tr × Int} (h:g.Ok C) (hp:p ∈ g.ps):2<=C:=by have:=(ok_mem h hp).2.2; omega
theorem stk_ok (hn:0<=n) (hF:1<=F) (hfr:fr.Ok F):∀ {pl:Pl} {g:Gr} {k:Str},g.Ok C->bareAt g pl=some k->(stk b n fr pl g).1.Ok (C+F+n+2)
 | [],_,_,_,h=>nomatch h
 | i::r,g,k,ho,h=>by
  by_cases hr:r=[]
  ·subst hr;obtain ⟨p,e,_⟩:=bare_one h;rw [stk_one e];have hC:=C_pos ho (Qu e);exact (tgt_ok2 (wo_ok ho (by omega)) hfr (by omega) hF).mono (by omega)
  ·obtain ⟨p,e,h2⟩:=bare_more hr h;rw [stk_more e hr];have pm:=Qu e;have hC:=C_pos ho pm;obtain ⟨a,o,_,_⟩:=ok_mem ho pm;have ih:=stk_ok hn hF hfr o h2;obtain ⟨f1,f2⟩:=Bk.far_le b p.1.1 hn;refine tgt_okM (wo_okM ho (by omega) (by omega)) (fun q hq=>?_) fun t=>?_
   ·rw [one_ps] at hq;rw [Qy hq];exact ⟨a,ih,by show 1<=1+b.far p.1.1 n; omega⟩
   ·have h1:=S_wo_le ho (t:=p.1) (m:=1) (by omega) t;have h3:=S_lt ho (by omega) t;rw [S_one]
    split <;> omega
theorem stk_parts:∀ {pl:Pl} {g:Gr} {k:Str},bareAt g pl=some k->(stk b n fr pl g).1.parts<=pl.length*(g.parts+1)+fr.parts
 | [],_,_,h=>nomatch h
 | i::r,g,k,h=>by
  by_cases hr:r=[]
  ·subst hr;obtain ⟨p,e,_⟩:=bare_one h;rw [stk_one e];have h1:=tgt_parts (wo g p.1 1) fr;have h2:=wo_parts g p.1 1;simp only [Yk,List.length_nil];omega
  ·obtain ⟨p,e,h2⟩:=bare_more hr h;rw [stk_more e hr];have pm:=Qu e;have ih:=stk_parts h2;have h3:=tgt_parts (wo g p.1 1) (one (chg b n fr r p) (1+b.far p.1.1 n));have h4:=wo_parts g p.1 1;have h5:(one (chg b n fr r p) (1+b.far p.1.1 n)).parts=1+(stk b n fr r p.1.2).1.parts:=rfl;have h6:=mem_parts g p pm;have h7:r.length*(p.1.2.parts+1)<=r.length*(g.parts+1):=Nat.mul_le_mul_left _ (by omega);show (chR b n fr r g p).parts<=_;rw [Yk,Nat.succ_mul];unfold chR;omega
theorem stk_deep:∀ {pl:Pl} {g:Gr} {k:Str},bareAt g pl=some k->(stk b n fr pl g).1.deep<=max g.deep (pl.length-1+fr.deep)
 | [],_,_,h=>nomatch h
 | i::r,g,k,h=>by
  by_cases hr:r=[]
  ·subst hr;obtain ⟨p,e,_⟩:=bare_one h;rw [stk_one e];have h2:=wo_deep g p.1 1;exact tgt_deep (by omega) (by simp only [Yk,List.length_nil]; omega)
  ·obtain ⟨p,e,h2⟩:=bare_more hr h;rw [stk_more e hr];have pm:=Qu e;have ih:=stk_deep h2;have h4:=wo_deep g p.1 1;have h5:(one (chg b n fr r p) (1+b.far p.1.1 n)).deep=max (1+(stk b n fr r p.1.2).1.deep) 0:=rfl;have h6:=mem_deep g p pm;have h7:0 < r.length:=List.length_pos_iff.mpr hr;refine tgt_deep (by omega) ?_;rw [h5,Yk];omega
theorem bare_len:∀ {pl:Pl} {g:Gr} {k:Str},bareAt g pl=some k->pl.length<=g.deep
 | [],_,_,h=>nomatch h
 | i::r,g,k,h=>by
  by_cases hr:r=[]
  ·subst hr;obtain ⟨p,e,_⟩:=bare_one h;have:=mem_deep g p (Qu e);simp only [Yk,List.length_nil];omega
  ·obtain ⟨p,e,h2⟩:=bare_more hr h;have:=mem_deep g p (Qu e);have:=bare_len h2;simp only [Yk];omega
theorem stk_named {ns:List Str} (hfr:Named ns fr):∀ {pl:Pl} {g:Gr} {k:Str},bareAt g pl=some k->Named ns g->Named ns (stk b n fr pl g).1
 | [],_,_,h,_=>nomatch h
 | i::r,g,k,h,hg=>by
  by_cases hr:r=[]
  ·subst hr;obtain ⟨p,e,_⟩:=bare_one h;rw [stk_one e];exact named_tgt (named_wo hg _ _) hfr
  ·obtain ⟨p,e,h2⟩:=bare_more hr h;rw [stk_more e hr];obtain ⟨h3,h4⟩:=named_iff.mp hg p (Qu e);exact named_tgt (named_wo hg _ _) (named_one (t:=chg b n fr r p) h3 (stk_named hfr h2 h4) _)
end Gr
abbrev noR:Ru:=(.nil,.nil)
def z4y (K:Qn):Sp:=fun vs H Q _=>∃ (v:V) (g:Gr) (ns:List Str),vs=[v]/\GA K H v g/\g.deep<=68/\g.parts<=3000/\Gr.Named ns g/\ns.length<=60/\∀ (l:Addr) (ss:List Str) (H':Hp),SB [] H H'->H l=none->H' l=some (.lst (ss.map V.str))->SrtOf ss (g.within.map (·.1.1))->ss.length<=60->Q (.ref l) H'
def z6d (K:Qn) (C:Addr):Sp:=fun vs H Q E=>∃ (v w:V) (b:Bk) (g:Gr),vs=[v,w]/\BkA K C H v b/\GA K H w g/\b.length<=60/\g.deep<=68/\g.parts<=3000/\Gr.Named b.names g/\∀ H',SB [] H H'->Q .non H'
theorem Gr.bare_named {ns:List Str}:∀ {pl:Pl} {g:Gr} {k:Str},Gr.Named ns g->Gr.bareAt g pl=some k->k ∈ ns
 | [],_,_,_,h=>nomatch h
 | i::r,g,k,hn,h=>by
  by_cases hr:r=[]
  ·subst hr;obtain ⟨p,e,e2⟩:=Gr.bare_one h;have:=(Gr.named_iff.mp hn p (Qu e)).1
   rwa [e2] at this
  ·obtain ⟨p,e,h2⟩:=Gr.bare_more hr h;exact bare_named (Gr.named_iff.mp hn p (Qu e)).2 h2
theorem Gr.wd_nil:Wd (.tuple []):=⟨by decide +kernel,by decide +kernel⟩
theorem nilI {σ:L2.St} {H:Hp} {Q:List V->Hp->Prop} (h:Q [] H):tNil σ H Q:=h
namespace Gr
theorem sumE_nonneg:∀ {bs:List (Tr × Int)} (x:Tr),(∀ p ∈ bs,0<=p.2)->0<=sumE bs x
 | [],_,_=>Int.le_refl _
 | p::r,x,h=>by
  have:=sumE_nonneg (bs:=r) x fun q hq=>h q (by simp [hq]);have:=h p (by simp);rw [z0f]
  split <;> omega
end Gr
theorem zc1 (n d:Nat) (h:1<=n):HT.sIx n d (some (-1))=n-1:=by
 unfold HT.sIx;simp
 try omega
theorem z9q (xs:List V) (h:1<=xs.length):cutV xs none (some (-1))=xs.take (xs.length-1):=by
 unfold cutV;rw [zc1 _ _ h,show HT.sIx xs.length 0 none=0 from rfl];simp
section
variable {γ:Type} [DecidableEq γ]
def wsum (f:γ->Int) (l:List (γ × Int)):Int:=match l with
 | []=>0
 | p::r=>f p.1*p.2+wsum f r
theorem z2g (f:γ->Int):∀ as bs:List (γ × Int),wsum f (as++bs)=wsum f as+wsum f bs
 | [],bs=>by simp [wsum]
 | p::r,bs=>by show _+wsum f (r++bs)=_; rw [z2g f r bs,wsum]; omega
theorem z25 (f:γ->Int) (t:γ):∀ l:List (γ × Int),wsum f l=f t*sumE l t+wsum f (l.filter fun p=>decide (p.1 ≠ t))
 | []=>by simp [wsum,sumE]
 | p::r=>by
  have ih:=z25 f t r;by_cases e:p.1=t
  ·rw [List.filter_cons_of_neg (by simpa using e)];show f p.1*p.2+wsum f r=f t*((if p.1=t then p.2 else 0)+sumE r t)+_;rw [if_pos e,Int.mul_add,e,ih]; omega
  ·rw [List.filter_cons_of_pos (by simpa using e)];show f p.1*p.2+wsum f r=f t*((if p.1=t then p.2 else 0)+sumE r t)+(f p.1*p.2+_);rw [if_neg e,Int.zero_add,ih]; omega
theorem z24 (t x:γ):∀ l:List (γ × Int),sumE (l.filter fun p=>decide (p.1 ≠ t)) x=if x=t then 0 else sumE l x
 | []=>by simp [sumE]
 | p::r=>by
  have ih:=z24 t x r;by_cases e:p.1=t
  ·rw [List.filter_cons_of_neg (by simpa using e),ih];by_cases hx:x=t
   ·rw [if_pos hx,if_pos hx]
   ·rw [if_neg hx,if_neg hx,z0f,if_neg (by rw [e]; exact fun z=>hx z.symm),Int.zero_add]
  ·rw [List.filter_cons_of_pos (by simpa using e),z0f,ih];by_cases hx:x=t
   ·rw [if_pos hx,if_pos hx,if_neg (by rw [hx]; exact e)]; rfl
   ·rw [if_neg hx,if_neg hx,z0f]
theorem z3k {p:γ × Int} {r:List (γ × Int)}:((p::r).filter fun q=>decide (q.1 ≠ p.1)).length<=r.length:=by
 rw [List.filter_cons_of_neg (by simp)]; exact List.length_filter_le _ _
theorem z2z (f:γ->Int):∀ (n:Nat) (as bs:List (γ × Int)),as.length+bs.length<=n->(∀ x,sumE as x=sumE bs x)->wsum f as=wsum f bs
 | n,[],[],_,_=>rfl
 | 0,p::r,bs,h,_=>by simp at h
 | 0,[],p::r,h,_=>by simp at h
 | n+1,p::r,bs,h,e=>by
  rw [z25 f p.1 (p::r),z25 f p.1 bs,e p.1,z2z f n ((p::r).filter fun q=>decide (q.1 ≠ p.1)) (bs.filter fun q=>decide (q.1 ≠ p.1)) ?_ fun x=>?_]
  ·have h1:=z3k (p:=p) (r:=r);have h2:=List.length_filter_le (fun q:γ × Int=>decide (q.1 ≠ p.1)) bs;simp only [Yk] at h;omega
  ·rw [z24,z24,e]
 | n+1,[],p::r,h,e=>by
  rw [z25 f p.1 (p::r),z25 f p.1 [],<- e p.1,z2z f n (([]:List (γ × Int)).filter fun q=>decide (q.1 ≠ p.1)) ((p::r).filter fun q=>decide (q.1 ≠ p.1)) ?_ fun x=>?_]
  ·have h1:=z3k (p:=p) (r:=r);simp only [Yk,List.length_nil,List.filter_nil] at h ⊢;omega
  ·rw [z24,z24,e]
end
namespace Gr
theorem wsum_tms (f:Tr->Int) (m:Int):∀ l:List (Tr × Int),wsum f (tmsL m l)=wsum f l*m
 | []=>by show (0:Int)=0*m; rw [Int.zero_mul]
 | p::r=>by
  show f p.1*(p.2*m)+wsum f (tmsL m r)=(f p.1*p.2+wsum f r)*m;rw [wsum_tms f m r,Int.add_mul,Int.mul_assoc]
end Gr
theorem SB.unlockP {ps:List Addr} {H H':Hp} {d:Addr} {od:Obj} {u:HO} (s:SB ps (upd H d (.frz od u)) H') (hd:H d=some u) (n1:∀ xs,u ≠ .tup xs) (n2:∀ o v,u ≠ .frz o v):SB ps H (upd H' d u):=by
 refine ⟨fun b o e hb=>?_,fun b xs e=>?_,fun b o v e=>?_,fun b e=>?_⟩
 ·by_cases z:b=d
  ·rw [z,Qt]; rw [z,hd] at e; exact e
  ·rw [upd_ne z]; exact s.keep b o (by rw [upd_ne z]; exact e) hb
 ·have z:b ≠ d:=fun z=>by rw [z,hd] at e; exact n1 _ (Yd e)
  rw [upd_ne z]; exact s.tups b xs (by rw [upd_ne z]; exact e)
 ·have z:b ≠ d:=fun z=>by rw [z,hd] at e; exact n2 _ _ (Yd e)
  rw [upd_ne z]; exact s.frzs b o v (by rw [upd_ne z]; exact e)
 ·have z:b ≠ d:=fun z=>by rw [z,Qt] at e; cases e
  rw [upd_ne z] at e;have:=s.dom b e
  rwa [upd_ne z] at this
namespace Lad
theorem enc_inj {l k:Lad} (e:l.enc=k.enc):l=k:=by
 have h:=eqv_enc l k;rw [<- e,eqv_enc] at h;by_cases z:l=k
 ·exact z
 ·rw [Qz z,Ya rfl] at h; cases h
def maxL (x:Lad) (xs:List Lad):Lad:=xs.foldl (fun a y=>if a.lt y=true then y else a) x
theorem maxL_enc:∀ (xs:List Lad) (x:Lad),maxD x.enc (xs.map enc)=(maxL x xs).enc
 | [],x=>rfl
 | y::r,x=>by
  show maxD (if dataLt x.enc y.enc=true then y.enc else x.enc) (r.map enc)=(maxL (if x.lt y=true then y else x) r).enc;by_cases h:x.lt y=true
  ·rw [if_pos h,if_pos (show dataLt x.enc y.enc=true from h)]; exact maxL_enc r y
  ·rw [if_neg h,if_neg (show ¬ dataLt x.enc y.enc=true from h)]; exact maxL_enc r x
theorem maxL_mem:∀ (xs:List Lad) (x:Lad),maxL x xs ∈ x::xs
 | [],x=>mcs ..
 | y::r,x=>by
  show maxL (if x.lt y=true then y else x) r ∈ _;by_cases h:x.lt y=true
  ·rw [if_pos h]; exact mcm _ (maxL_mem r y)
  ·rw [if_neg h];rcases Qv (maxL_mem r x) with e | e
   ·rw [e]; exact mcs ..
   ·exact mcm _ (mcm _ e)
theorem maxL_ge:∀ (xs:List Lad) (x:Lad),∀ y ∈ x::xs,(maxL x xs).lt y=false
 | [],x,y,hy=>by rw [Qy hy]; exact lt_irrefl _
 | z::r,x,y,hy=>by
  show (maxL (if x.lt z=true then z else x) r).lt y=false;by_cases h:x.lt z=true
  ·rw [if_pos h];have g:=maxL_ge r z;rcases Qv hy with rfl | hy
   ·cases e:(maxL z r).lt y with
    | false=>rfl
    | true =>
     have:=lt_trans _ _ _ e h;rw [g z (mcs ..)] at this; cases this
   ·exact g y hy
  ·rw [if_neg h];have g:=maxL_ge r x;rcases Qv hy with rfl | hy
   ·exact g _ (mcs ..)
   rcases Qv hy with rfl | hy
   ·cases e:(maxL x r).lt y with
    | false=>rfl
    | true =>
     have h:=eq_false_of_ne_true h;have gx:=g x (mcs ..);by_cases e1:x=y
     ·subst e1; rw [gx] at e; cases e
     ·have:=lt_trans _ _ _ e (lt_tri x y e1 h);rw [gx] at this; cases this
   ·exact g y (mcm _ hy)
end Lad
section
variable {prog:Program} {w:World} {A:Around} {E:Value->Shared->Prop} {s:Shared}
theorem zfv {l:Addr} {vs:Array Value} {x:PyData} {xs:List PyData} {as:List Addr} {Q:Value->Shared->Prop} (hh:A.handled=none) (hl:s.heap.IsList l vs) (hr:ReadsAll s.heap vs.toList (x::xs) as) (ha:AlikeAll (x::xs)) (hu:A.units+1+PyData.depthAll (x::xs) < cLine)
  (h:∀ (i:Nat) v h' tk,vs[i]?=some v->(x::xs).getD i .none=maxD x xs->(∀ b o,s.heap.get? b=some o->h'.get? b=some o)->Q v { s with heap:=h',toks:=tk }) :
  wpAny (model prog w) A (call (.builtin "max") [.ref l]) Q E s:=by
 have hn:vs.size=xs.length+1:=readsAll_len hr;refine call_max_walkH (iter_listW (A:=A.in1) hh hl fun s2 e W st hfp hw hk=>?_);refine ⟨_,_,_,_,_,_,_,s.heap,_,rfl,W,st,hfp,by omega,hw,hk,cmpIn_gt (A:=A.in1) hr ha (by show A.units+1+_ < _; exact hu),fun v s' hP m=>?_⟩;obtain ⟨h',tk,rfl,hk'⟩:=moved_old e rfl m;have e1:vs.size-1=xs.length:=by omega
 have e2:=(argBest_fold (fun a b=>dataLt b a) PyData.none x xs xs.length (Yc _)).2;rw [Yh] at e2;refine h _ v h' tk hP ?_ hk';rw [e1];unfold maxD;exact e2
end
def ziy (K:Qn):List V->Hp->VK->Prop:=fun vs H Q=>∃ (a:Addr) (xs:List V) (l:Lad) (ls:List Lad),vs=[V.ref a]/\SqL K H a xs/\Bears K H Lad.enc xs (l::ls)/\(∀ k ∈ l::ls,k.deep<=45)/\∀ x:V,LA K H x (Lad.maxL l ls)->Q x H
theorem Vals.at':∀ {vs:List V} {us:List Value} {i:Nat} {u:Value},Vals vs us->us[i]?=some u->∃ v,vs[i]?=some v/\RelV v u
 | _,_,0,u,.cons r _,h=>⟨_,rfl,by have e:=Yd (show some _=some u from h); subst e; exact r⟩
 | _,_,i+1,u,.cons _ t,h=>Vals.at' (i:=i) t (by simpa using h)
 | _,_,i,u,.nil,h=>by simp at h
theorem zdu {X:Cx} (hc:X.calm=true) (hu:X.A.units+110 < cLine):CallR X (.builtin "max") (ziy X.K):=by
 intro pins s σ H vs us Q I r h;obtain ⟨a,xs,l,ls,rfl,hs,hb,hd,q⟩:=h;obtain ⟨its,rv,hl,_⟩:=I.list hs;rw [Vals.ref1 r];obtain ⟨_,e2⟩:=z3v I hb rv;obtain ⟨as,ra⟩:=each_readsAll Lad.enc e2;have al:AlikeAll ((l::ls).map Lad.enc):=⟨fun x hx y hy=>by
  obtain ⟨p,_,rfl⟩:=Qx hx;obtain ⟨p2,_,rfl⟩:=Qx hy;exact Lad.alike_enc p p2,fun x hx=>by
  obtain ⟨p,_,rfl⟩:=Qx hx;exact Lad.enc_ne p⟩
 have hdep:PyData.depthAll ((l::ls).map Lad.enc)<=91:=z7b fun d hd'=>by
  obtain ⟨p,hp,rfl⟩:=Qx hd';have:=hd p hp;have:=Lad.enc_depth p;omega
 refine zfv (vs:=its.toArray) (x:=l.enc) (xs:=ls.map Lad.enc) (as:=as) (I.ok.hd hc) hl.isList (by simpa using ra) al (by show X.A.units+1+PyData.depthAll ((l::ls).map Lad.enc) < cLine; omega) fun i u h' tk hi e hk=>?_;obtain ⟨v,ev,rvu⟩:=Vals.at' (i:=i) rv (by simpa using hi);obtain ⟨p,ep,hp⟩:=hb.get ev;have e3:p.enc=(Lad.maxL l ls).enc:=by
  rw [<- Lad.maxL_enc,<- e,show (l.enc::ls.map Lad.enc)=(l::ls).map Lad.enc from rfl,List.getD_eq_getElem?_getD,List.getElem?_map,ep]
  rfl
 have e4:=Lad.enc_inj e3;exact ⟨v,H,I.kept hk,rvu,q v (by rw [<- e4]; exact hp)⟩
def lad (w:Bool) (o l:Lad):Lad:=if w=true then Lad.spd o l else Lad.bhd o l
def Bk.wide (b:Bk) (n:Str):Bool:=match b.get n with
 | some k=>k.w
 | none=>false
theorem Bk.wide_get {b:Bk} {n:Str} {k:Kd} (h:b.get n=some k):b.wide n=k.w:=by unfold Bk.wide; rw [h]
namespace Gr
def rkT (b:Bk) (ρ:Str->Lad):Gr->List Lad
 | .nil=>[]
 | .cons k g m r=>Lad.tms (lad (b.wide k) (ρ k) (Lad.bths (rkT b ρ g))) m::rkT b ρ r
def rk (b:Bk) (ρ:Str->Lad) (g:Gr):Lad:=Lad.bths (rkT b ρ g)
def rkt (b:Bk) (ρ:Str->Lad) (t:Tr):Lad:=lad (b.wide t.1) (ρ t.1) (rk b ρ t.2)
variable {b:Bk} {ρ:Str->Lad} {C:Int}
theorem rkT_ps:∀ g:Gr,rkT b ρ g=g.ps.map fun p=>Lad.tms (rkt b ρ p.1) p.2
 | .nil=>rfl
 | .cons k g m r=>by
  show _::rkT b ρ r=_::r.ps.map _;rw [rkT_ps r]; rfl
theorem rk_ps (g:Gr):rk b ρ g=Lad.bths (g.ps.map fun p=>Lad.tms (rkt b ρ p.1) p.2):=by unfold rk; rw [rkT_ps]
theorem S_bths (ls:List Lad) (x:Lad):Lad.S (Lad.bths ls) x=(ls.map fun l=>Lad.S l x).sum:=by
 have e:Lad.S (Lad.bths ls) x=Lad.sumAt (ls.flatMap Lad.ps) x:=by
  unfold Lad.bths Lad.S;rw [Lad.ps_ofPs,Lad.sumAt_jn,Lad.sumAt_perm (Lad.dsc_perm _)]
 rw [e];clear e
 induction ls with
 | nil=>rfl
 | cons l r ih=>rw [List.flatMap_cons,Lad.sumAt_append,ih]; rfl
theorem S_rk (g:Gr) (x:Lad):Lad.S (rk b ρ g) x=wsum (fun t=>Lad.S (rkt b ρ t) x) g.ps:=by
 rw [rk_ps,S_bths]
 induction g.ps with
 | nil=>rfl
 | cons p r ih =>
  rw [List.map_cons,List.map_cons,List.sum_cons,ih,Lad.S_tms]
  rfl
end Gr
structure LFit (l:Lad):Prop where
 deep:l.deep<=25
 parts:l.parts<=900
 num:∀ p ∈ l.ps,0<=p.2/\p.2 < 2 ^ 2000
def Gr.Fit (b:Bk) (ρ:Str->Lad) (ns:List Str):Gr->Prop
 | .nil=>True
 | .cons k g m r=>(k ∈ ns/\k ∈ b.names/\ρ k ≠ .nil/\LFit (ρ k)/\LFit (Gr.rk b ρ g)/\LFit (Gr.rkt b ρ (k,g))/\0<=m/\m < 2 ^ 2000/\((Gr.rkT b ρ (.cons k g m r)).flatMap Lad.ps).length<=900)/\Gr.Fit b ρ ns g/\Gr.Fit b ρ ns r
def RkD (K:Qn) (H:Hp) (d:Addr) (ρ:Str->Lad) (ns:List Str):Prop:=∃ us:List V,H d=some (.dK (List.zipWith (fun (n:Str) (u:V)=>((Sum.inr n:Key),u)) ns us))/\Bears K H Lad.enc us (ns.map ρ)
theorem z9d {K:Qn} {H:Hp} {ρ:Str->Lad} {n:Str}:∀ {ns:List Str} {us:List V},Bears K H Lad.enc us (ns.map ρ)->n ∈ ns->∃ u,valV (List.zipWith (fun (n:Str) (u:V)=>((Sum.inr n:Key),u)) ns us) (Sum.inr n)=some u/\LA K H u (ρ n)
 | [],_,_,hn=>nomatch hn
 | m::r,us,h,hn=>by
  cases h with
  | @cons u us' _ _ h1 h2 =>
  by_cases e:m=n
  ·subst e;exact ⟨u,by simp [valV],h1⟩
  ·obtain ⟨v,h3,h4⟩:=z9d h2 (by rcases Qv hn with z | z; exact absurd z.symm e; exact z);refine ⟨v,?_,h4⟩;rw [List.zipWith_cons_cons];unfold valV;rw [List.find?_cons_of_neg (by simp only [decide_eq_true_eq]; exact fun z=>e (Sum.inr.inj z))];exact h3
theorem RkD.val {K:Qn} {H:Hp} {d:Addr} {ρ:Str->Lad} {ns:List Str} {n:Str} (h:RkD K H d ρ ns) (hn:n ∈ ns):∃ u,DGet H d (.str n) (some u)/\LA K H u (ρ n):=by
 obtain ⟨us,h1,h2⟩:=h;obtain ⟨u,h3,h4⟩:=z9d h2 hn;exact ⟨u,getK h1 h3,h4⟩
theorem RkD.sb {K:Qn} {H H':Hp} {d:Addr} {ρ:Str->Lad} {ns:List Str} {ps:List Addr} (h:RkD K H d ρ ns) (s:SB ps H H') (hd:d ∉ ps):RkD K H' d ρ ns:=by
 obtain ⟨us,h1,h2⟩:=h;exact ⟨us,s.keep _ _ h1 hd,h2.sb s Lad.noList_enc⟩
theorem RkD.sb0 {K:Qn} {H H':Hp} {d:Addr} {ρ:Str->Lad} {ns:List Str} (h:RkD K H d ρ ns) (s:SB [] H H'):RkD K H' d ρ ns:=h.sb s nmn
def clm (b:Bk) (ρ:Str->Lad) (r:Ru):Lad:=Lad.abv (Gr.rk b ρ r.1) (Gr.rk b ρ r.2)
def RFit (b:Bk) (ρ:Str->Lad) (ns:List Str) (r:Ru):Prop:=Gr.Fit b ρ ns r.1/\Gr.Fit b ρ ns r.2/\(Gr.rk b ρ r.1).deep<=24/\(Gr.rk b ρ r.2).deep<=24/\(Gr.rk b ρ r.1).parts<=390/\(Gr.rk b ρ r.2).parts<=390
def z2p (K:Qn) (C:Addr):Sp:=fun vs H Q _=>∃ (v u:V) (d:Addr) (b:Bk) (ρ:Str->Lad) (ns:List Str) (r:Ru),vs=[v,.ref d,u]/\BkA K C H v b/\b.length<=1000/\RkD K H d ρ ns/\Dp K H u (Ru.enc r)/\r.1.deep < 20/\r.2.deep < 20/\r.1.parts<=900/\r.2.parts<=900/\RFit b ρ ns r/\∀ (x:V) (H':Hp),SB [] H H'->LA K H' x (clm b ρ r)->Q x H'
theorem z3e (b:Bk) (ρ:Str->Lad):clm b ρ (.nil,.nil)=Lad.uno:=by
 show Lad.abv (Gr.rk b ρ .nil) (Gr.rk b ρ .nil)=Lad.uno;have e:Gr.rk b ρ .nil=.nil:=by
  show Lad.ofPs (jn (Lad.dsc []))=.nil;have:Lad.dsc []=[]:=List.Perm.eq_nil (Lad.dsc_perm []);rw [this]; rfl
 rw [e];show Lad.bth .nil Lad.uno=Lad.uno;rw [Lad.bth_comm];exact Lad.bth_nil Lad.uno_ok
theorem z6t (b:Bk) (ρ:Str->Lad) (ns:List Str):RFit b ρ ns (.nil,.nil):=by
 have e:Gr.rk b ρ .nil=.nil:=by
  show Lad.ofPs (jn (Lad.dsc []))=.nil;have:Lad.dsc []=[]:=List.Perm.eq_nil (Lad.dsc_perm []);rw [this]; rfl
 exact ⟨trivial,trivial,by show (Gr.rk b ρ .nil).deep<=24; rw [e]; decide,by show (Gr.rk b ρ .nil).deep<=24; rw [e]; decide,by show (Gr.rk b ρ .nil).parts<=390; rw [e]; decide,by show (Gr.rk b ρ .nil).parts<=390; rw [e]; decide⟩
structure OwnR (b:Bk) (ρ:Str->Lad):Prop where
 own:∀ k ∈ b,EndK b k.n->ρ k.n=Lad.maxL Lad.uno (k.rs.map (clm b ρ))
 fit:∀ k ∈ b,EndK b k.n->∀ ns,(∀ n,n ∈ adj b k.n->n ∈ ns)->∀ r ∈ k.rs,RFit b ρ ns r
 deep:∀ k ∈ b,EndK b k.n->∀ r ∈ k.rs,(clm b ρ r).deep<=45
structure EndO (b:Bk) (es:List Str):Prop where
 nd:es.Nodup
 len:es.length<=8
 mem:∀ n,n ∈ es ↔ n ∈ b.names/\EndK b n
 ord:∀ (i:Nat) (n:Str),es[i]?=some n->∀ k ∈ adj b n,k ∈ es.take i
def z3i (K:Qn) (C N:Addr):Sp:=fun vs H Q E=>∃ (v:V) (b:Bk),vs=[v]/\BkA K C H v b/\b.Ok/\∀ (l:Addr) (es:List Str) (H':Hp),SB [] H H'->H l=none->H' l=some (.lst (es.map V.str))->EndO b es->Q (.ref l) H'
def z5k (K:Qn) (C N:Addr):Sp:=fun vs H Q _=>∃ (v:V) (b:Bk) (ρ:Str->Lad),vs=[v]/\BkA K C H v b/\b.Ok/\OwnR b ρ/\∀ (d:Addr) (es:List Str) (H':Hp),SB [] H H'->H d=none->RkD K H' d ρ es->EndO b es->Q (.ref d) H'
def z77 (K:Qn) (C N:Addr):Sp:=fun vs H Q E=>∃ (v w:V) (b:Bk) (g:Gr),vs=[v,w]/\BkA K C H v b/\b.Ok/\GA K H w g/\g.deep<=68/\g.parts<=3000/\Gr.Named b.names g/\(∀ x ∈ g.within,EndK b x.1.1)/\∀ H',SB [] H H'->Q .non H'
theorem RkD.put {K:Qn} {H:Hp} {d:Addr} {ρ:Str->Lad} {ns:List Str} {n:Str} {x:V} (h:RkD K H d ρ ns) (hn:n ∉ ns) (hl:ns.length<=1000) (hx:LA K H x (ρ n)):∃ H',DPut H d (.str n) x H'/\SB [d] H H'/\RkD K H' d ρ (ns++[n]):=by
 obtain ⟨us,h1,h2⟩:=h;have szl:=sizeLine_eq;have ul:us.length=ns.length:=by rw [h2.length,Ye]
 have t:=SB.setD (ps:=[d]) h1 (by simp) (.dK (putK (List.zipWith (fun (n:Str) (u:V)=>((Sum.inr n:Key),u)) ns us) (Sum.inr n) x));have e:putK (List.zipWith (fun (n:Str) (u:V)=>((Sum.inr n:Key),u)) ns us) (Sum.inr n) x=List.zipWith (fun (n:Str) (u:V)=>((Sum.inr n:Key),u)) (ns++[n]) (us++[x]):=by
  rw [z26 fun p hp z=>?_,List.zipWith_append (by omega)]
  ·rfl
  ·clear t h1 h2 ul
   induction ns generalizing us with
   | nil=>cases hp
   | cons m r ih =>
    cases us with
    | nil=>cases hp
    | cons u us =>
     rw [List.zipWith_cons_cons] at hp;rcases Qv hp with rfl | hp
     ·exact hn (List.mem_cons.mpr (.inl (Sum.inr.inj z).symm))
     ·exact ih (fun h=>hn (mcm _ h)) (by simp at hl; omega) us hp
 refine ⟨_,DPut.k (k:=Sum.inr n) h1 (by rw [List.length_zipWith]; omega),t,us++[x],?_,?_⟩
 ·rw [Qt,e]
 ·rw [Yj];exact (h2.sb t Lad.noList_enc).append (.cons (LA.sb hx t) .nil)
namespace Lad
theorem deep_le' {n:Nat}:∀ {l:Lad},(∀ p ∈ l.ps,p.1.deep < n)->l.deep<=n
 | .nil,_=>Nat.zero_le _
 | .cons e m r,h=>by
  have h1:=h (e,m) (mcs ..);have h2:=deep_le' (l:=r) fun p hp=>h p (mcm _ hp);have h1:e.deep < n:=h1;show max (1+e.deep) r.deep<=n;omega
theorem tms_one {e:Lad} {m:Int} (hm:1<=m):tms (.cons e 1 .nil) m=.cons e m .nil:=by
 unfold tms;rw [if_neg (by omega)];show Lad.cons e (1*m) .nil=_;rw [Int.one_mul]
end Lad
theorem z5w {K:Qn} {H:Hp}:∀ ks:List Str,Bears K H PyData.str (ks.map V.str) ks
 | []=>.nil
 | k::r=>.cons (.str k) (z5w r)
section
variable {K:Qn} {H:Hp} {σ:L2.St} {i:Nat} {N:Addr} {n:Str} {zs:List V}
theorem tupI {as:TA} {Q:VK} (h:as σ H fun xs H1=>xs.length<=sizeLine/\∀ p,H1 p=none->Q (.ref p) (upd H1 p (.tup xs))):tTup as σ H Q:=h
end
abbrev zcz:R2:=fun x y H Q=>∃ (z:Str) (n:Nat),x=.str z/\y=.int (n:Int)/\n<=1000/\z.length<=1000/\Q (.str (Txt.mul z (n:Int))) H
theorem zbi {z:Str} {n:Nat} (hn:n<=1000) (hz:z.length<=1000):MulOk z (n:Int):=by
 have hp:z.length*n<=1000*1000:=Nat.mul_le_mul hz hn;refine ⟨?_,fun h1 _=>?_,fun h1 _=>?_⟩
 ·rw [Qz (by omega),Qz (by omega)]; rfl
 ·have:(z.length:Int)<=(2 ^ 63-1) / (n:Int):=by
   refine (Int.le_ediv_iff_mul_le (by omega)).mpr ?_;have:((z.length*n:Nat):Int)<=1000000:=by omega
   rw [Int.natCast_mul] at this;omega
  omega
 ·rw [Int.toNat_natCast];unfold Builtin.Str.tooLong;rw [Qz];have:=sizeLine_eq;omega
theorem zdw {X:Cx}:OpR X (binaryOp .Mult) zcz:=by
 intro pins s σ H x y v u Q I rx ry h;obtain ⟨z,n,rfl,rfl,hn,hz,q⟩:=h;obtain ⟨t,rfl⟩:=rx;obtain ⟨t',rfl⟩:=ry;exact PySem.SB.mul (zbi hn hz) (fun t' tk=>⟨.str (Txt.mul z (n:Int)),H,I.tok _,⟨_,rfl⟩,q⟩)
theorem z8m (c:Nat):∀ (n:Nat) (b:Array Nat),((List.replicate n (#[c]:Array Nat)).foldl (·++·) b).toList=b.toList++List.replicate n c
 | 0,b=>by simp
 | n+1,b=>by
  rw [List.replicate_succ,List.foldl_cons,z8m c n];simp [List.replicate_succ]
theorem mul_one (c n:Nat):(Txt.mul ⟨#[c]⟩ (n:Int)).cps.toList=List.replicate n c:=by
 unfold Txt.mul;by_cases h1:(n:Int) < 1
 ·rw [if_pos h1];have:n=0:=by omega
  subst this; rfl
 ·rw [if_neg h1];by_cases h2:((n:Int) == 1 || (⟨#[c]⟩:Str).length == 0)=true
  ·rw [if_pos h2];have:n=1:=by
    have e:((⟨#[c]⟩:Str).length == 0)=false:=rfl;rw [e,Bool.or_false] at h2;have:=beq_iff_eq.mp h2;omega
   subst this; rfl
  ·rw [if_neg h2,Int.toNat_natCast];exact (z8m c n #[]).trans (by simp)
theorem Ltr.mul {c:Nat} (n:Nat) (h:97<=c/\c<=122):Ltr (Txt.mul ⟨#[c]⟩ (n:Int)) n:=by
 refine ⟨?_,fun x hx=>?_⟩
 ·rw [mul_one]; simp
 ·rw [mul_one] at hx;rw [List.eq_of_mem_replicate hx]; exact h
theorem RkD.none {K:Qn} {H:Hp} {d:Addr} {ρ:Str->Lad} {ns:List Str} {n:Str} (h:RkD K H d ρ ns) (hn:n ∉ ns):DGet H d (.str n) none:=by
 obtain ⟨us,h1,h2⟩:=h;refine .inl ⟨_,Sum.inr n,.inl h1,rfl,?_⟩;unfold valV;have:List.find? (fun kv:Key × V=>decide (kv.1=Sum.inr n)) (List.zipWith (fun (n:Str) (u:V)=>((Sum.inr n:Key),u)) ns us)=Option.none:=by
  refine List.find?_eq_none.mpr fun x hx=>?_;have key:∀ (ns:List Str) (us:List V),x ∈ List.zipWith (fun (n:Str) (u:V)=>((Sum.inr n:Key),u)) ns us->∃ m ∈ ns,x.1=Sum.inr m:=by
   intro ns
   induction ns with
   | nil=>intro us h; cases h
   | cons m r ih =>
    intro us h;cases us with
    | nil=>cases h
    | cons u us =>
     rw [List.zipWith_cons_cons] at h;rcases Qv h with rfl | h
     ·exact ⟨m,mcs ..,rfl⟩
     ·obtain ⟨m',h1,h2⟩:=ih us h;exact ⟨m',mcm _ h1,h2⟩
  obtain ⟨m,hm,e⟩:=key ns us hx;rw [e];simp only [decide_eq_true_eq];exact fun z=>hn (by rw [<- Sum.inr.inj z]; exact hm)
 rw [this]; rfl
theorem KdAll.more {K:Qn} {H:Hp} {bad:List Addr} {R:Addr} (hR:H R=none):∀ {vs:List V} {b:Bk},KdAll K H bad vs b->KdAll K H (R::bad) vs b
 | _,_,.nil=>.nil
 | _,_,.cons a t=>by
  obtain ⟨t1,l,zs,e,h1,h2,h3,h4⟩:=a;refine .cons ⟨t1,l,zs,e,h1,h2,h3,fun z=>?_⟩ (KdAll.more hR t);rcases Qv z with z | z
  ·rw [z,hR] at h2; cases h2
  ·exact h4 z
theorem z06 (n:Nat):(1:Int)<=2 ^ n:=by
 have:(0:Int) < 2 ^ n:=Int.pow_pos (by decide);omega
theorem z04 {a b:Nat} (h:a<=b):(2:Int) ^ a<=2 ^ b:=by
 obtain ⟨k,rfl⟩:=Nat.le.dest h;rw [Int.pow_add];have h1:=z06 a;have h2:=z06 k;have:=Int.mul_le_mul_of_nonneg_left h2 (show (0:Int)<=2 ^ a by omega);omega
theorem z0o (a:Nat):(2:Int) ^ (a+1)=2*2 ^ a:=by rw [Int.pow_succ]; omega
namespace Lad
theorem lad_ok {B C:Int} {w:Bool} {o l:Lad} (ho:o.Ok B) (hl:l.Ok C) (hB:1<=B) (hC:1<=C):(lad w o l).Ok (B+C):=by
 unfold lad;cases w with
 | false=>exact bhd_ok ho hl hB hC
 | true =>
  rw [if_pos rfl];cases o with
  | nil =>
   cases l with
   | nil=>trivial
   | cons e m r=>exact hl.mono (by omega)
  | cons e m r =>
   cases l with
   | nil=>exact ho.mono (by omega)
   | cons e2 m2 r2 =>
    show (Lad.cons (bhd e (.cons e2 m2 r2)) 1 .nil).Ok _;exact ⟨bhd_ok ho.1 hl hB hC,by decide,by omega,trivial,by simp [ps]⟩
theorem lad_parts (w:Bool) (o l:Lad):(lad w o l).parts<=o.parts+l.parts:=by
 unfold lad;cases w with
 | false=>exact bhd_parts o l
 | true =>
  rw [if_pos rfl];cases o with
  | nil=>cases l <;> simp [spd,parts]
  | cons e m r =>
   cases l with
   | nil=>show (Lad.cons e m r).parts<=_; omega
   | cons e2 m2 r2 =>
    have:=bhd_parts e (.cons e2 m2 r2);show 1+(bhd e (.cons e2 m2 r2)).parts+0<=1+e.parts+r.parts+_;omega
theorem lad_deep {w:Bool} {o l:Lad} {n:Nat} (ho:o.deep<=n) (hl:l.deep<=n):(lad w o l).deep<=n+1:=by
 unfold lad;cases w with
 | false=>exact Nat.le_succ_of_le (bhd_deep ho hl)
 | true =>
  rw [if_pos rfl];cases o with
  | nil=>cases l with
   | nil=>exact Nat.zero_le _
   | cons e m r=>exact Nat.le_succ_of_le hl
  | cons e m r =>
   cases l with
   | nil=>exact Nat.le_succ_of_le ho
   | cons e2 m2 r2 =>
    have he:e.deep<=n:=by
     have:max (1+e.deep) r.deep<=n:=ho;omega
    have:=bhd_deep he hl;show max (1+(bhd e (.cons e2 m2 r2)).deep) 0<=n+1;omega
theorem bths_ok {ls:List Lad} {B D:Int} (h:∀ l ∈ ls,l.Ok B) (hB:0<=B) (hD:B<=D) (hs:∀ x,(ls.map fun l=>S l x).sum < D):(bths ls).Ok D:=by
 have hd:(jn (dsc (ls.flatMap ps))).Pairwise (fun p q=>q.1.lt p.1=true):=jn_desc (dsc_keys _);show (ofPs (jn (dsc (ls.flatMap ps)))).Ok D;rw [ok_ps];refine ⟨fun p hp=>?_,hd⟩;have hnd:∀ (bs:List (Lad × Int)),bs.Pairwise (fun p q=>q.1.lt p.1=true)->∀ p ∈ bs,sumAt bs p.1=p.2:=by
  intro bs
  induction bs with
  | nil=>intro _ p hp; cases hp
  | cons q r ih =>
   intro hpw p hp;obtain ⟨e,m⟩:=q;obtain ⟨h1,h2⟩:=List.pairwise_cons.mp hpw;rw [sumAt_cons];rcases Qv hp with hp | hp
   ·subst hp;rw [if_pos rfl,sumAt_zero fun q hq=>lt_ne (h1 q hq)];omega
   ·rw [if_neg (fun z=>lt_ne (h1 p hp) z.symm),ih h2 p hp];omega
 have e1:sumAt (jn (dsc (ls.flatMap ps))) p.1=p.2:=hnd _ hd p hp;have e2:p.2=(ls.map fun l=>S l p.1).sum:=by
  rw [<- e1,<- Gr.S_bths];show _=sumAt (bths ls).ps p.1;unfold bths;rw [ps_ofPs]
 obtain ⟨q,hq,eq⟩:=z1h _ p hp;have hq':=(dsc_perm _).mem_iff.mp hq;obtain ⟨l,hl,hql⟩:=List.mem_flatMap.mp hq';have qo:=(ok_iff.mp (h l hl)).1 q hql;have pos:∀ (ks:List Lad),(∀ l ∈ ks,l.Ok B)->0<=(ks.map fun l=>S l p.1).sum/\∀ l ∈ ks,S l p.1<=(ks.map fun l=>S l p.1).sum:=by
  intro ks
  induction ks with
  | nil=>intro _; exact ⟨Int.le_refl _,fun l hl=>nomatch hl⟩
  | cons k r ih =>
   intro hk;obtain ⟨i1,i2⟩:=ih fun l hl=>hk l (mcm _ hl);have n1:=S_nonneg (hk k (mcs ..)) p.1;rw [List.map_cons,List.sum_cons];refine ⟨by omega,fun l hl=>?_⟩;rcases Qv hl with rfl | hl
   ·omega
   ·have:=i2 l hl; omega
 have s1:=(pos ls h).2 l hl;have s2:S l p.1=q.2:=by rw [<- eq]; exact S_mem (h l hl) hql
 have s3:=hs p.1;refine ⟨?_,by omega,by omega⟩;rw [<- eq]; exact qo.1.mono hD
theorem bths_parts (ls:List Lad):(bths ls).parts<=(ls.map parts).sum:=by
 have e:∀ ls:List Lad,tot (ls.flatMap ps)=(ls.map parts).sum:=by
  intro ls
  induction ls with
  | nil=>rfl
  | cons l r ih =>
   rw [List.flatMap_cons,tot_append,ih,List.map_cons,List.sum_cons];have:tot l.ps=l.parts:=by
    have:=parts_ofPs l.ps;rw [ofPs_ps] at this; exact this.symm
   rw [this]
 show (ofPs (jn (dsc (ls.flatMap ps)))).parts<=_;rw [parts_ofPs,<- e];exact Yb (tot_jn _) (Nat.le_of_eq (tot_perm (dsc_perm _)))
theorem bths_deep {ls:List Lad} {n:Nat} (h:∀ l ∈ ls,l.deep<=n):(bths ls).deep<=n:=by
 refine deep_le' fun p hp=>?_;unfold bths at hp;rw [ps_ofPs] at hp;obtain ⟨q,hq,e⟩:=z1h _ p hp;obtain ⟨l,hl,hql⟩:=List.mem_flatMap.mp ((dsc_perm _).mem_iff.mp hq);have:=l.mem_deep q hql;have:=h l hl;rw [<- e]; omega
end Lad
namespace Gr
variable {b:Bk} {ρ σ:Str->Lad} {C:Int} {ns:List Str}
theorem rk_nil:rk b ρ .nil=.nil:=by
 show Lad.ofPs (jn (Lad.dsc []))=.nil;have:Lad.dsc []=[]:=List.Perm.eq_nil (Lad.dsc_perm []);rw [this]; rfl
theorem rkT_congr:∀ {g:Gr},(∀ x ∈ g.within,ρ x.1.1=σ x.1.1)->rkT b ρ g=rkT b σ g
 | .nil,_=>rfl
 | .cons k g m r,h=>by
  have e1:=h ((k,g),m) (mcs ..);have e2:=rkT_congr (g:=g) fun x hx=>h x (mcm _ (mal _ hx));have e3:=rkT_congr (g:=r) fun x hx=>h x (mcm _ (mar _ hx));show Lad.tms (lad (b.wide k) (ρ k) (Lad.bths (rkT b ρ g))) m::rkT b ρ r=_::rkT b σ r;rw [e2,e3,show ρ k=σ k from e1]
theorem rk_congr {g:Gr} (h:∀ x ∈ g.within,ρ x.1.1=σ x.1.1):rk b ρ g=rk b σ g:=by unfold rk; rw [rkT_congr h]
theorem rk_size {P D:Nat} (hk:∀ n ∈ ns,(ρ n).parts<=P/\(ρ n).deep<=D):∀ {g:Gr},Named ns g->((rkT b ρ g).map Lad.parts).sum<=P*g.parts/\∀ l ∈ rkT b ρ g,l.deep<=D+g.deep
 | .nil,_=>And.intro (Nat.zero_le _) (fun l hl=>nomatch hl)
 | .cons k g m r,h=>by
  have hkn:k ∈ ns:=h ((k,g),m) (mcs ..);obtain ⟨g1,g2⟩:=rk_size hk (g:=g) fun x hx=>h x (mcm _ (mal _ hx));obtain ⟨r1,r2⟩:=rk_size hk (g:=r) fun x hx=>h x (mcm _ (mar _ hx));obtain ⟨k1,k2⟩:=hk k hkn;have ip:(Lad.bths (rkT b ρ g)).parts<=P*g.parts:=Yb (Lad.bths_parts _) g1;have idp:(Lad.bths (rkT b ρ g)).deep<=D+g.deep:=Lad.bths_deep g2;have lp:=Lad.lad_parts (b.wide k) (ρ k) (Lad.bths (rkT b ρ g));have tp:=Lad.tms_parts (lad (b.wide k) (ρ k) (Lad.bths (rkT b ρ g))) m;have ld:=Lad.lad_deep (w:=b.wide k) (o:=ρ k) (l:=Lad.bths (rkT b ρ g)) (n:=D+g.deep) (by omega) idp;have e1:(Gr.cons k g m r).parts=1+g.parts+r.parts:=rfl;have e2:(Gr.cons k g m r).deep=max (1+g.deep) r.deep:=rfl;refine ⟨?_,fun l hl=>?_⟩
  ·show (Lad.tms (lad (b.wide k) (ρ k) (Lad.bths (rkT b ρ g))) m).parts+((rkT b ρ r).map Lad.parts).sum<=_;rw [e1,Nat.mul_add,Nat.mul_add,Nat.mul_one];omega
  ·rw [e2];rcases Qv hl with rfl | hl
   ·have:=Lad.tms_deep (n:=D+g.deep+1) m ld;omega
   ·have:=r2 l hl; omega
end Gr
theorem z0l {rs:List Ru} {r:Ru} (hr:r ∈ rs) {x:Tr × Int} (hx:x ∈ Ru.within r):x.1.1 ∈ ledR rs:=List.mem_flatMap.mpr ⟨r,hr,List.mem_map.mpr ⟨x,hx,rfl⟩⟩
theorem zaz {b:Bk} {ρ σ:Str->Lad} {r:Ru} (h:∀ x ∈ Ru.within r,ρ x.1.1=σ x.1.1):clm b ρ r=clm b σ r:=by
 unfold clm;rw [Gr.rk_congr fun x hx=>h x (mal _ hx),Gr.rk_congr fun x hx=>h x (mar _ hx)]
def Bk.rules (b:Bk) (n:Str):List Ru:=match b.get n with
 | some k=>k.rs
 | none=>[]
def z2n (b:Bk) (k n:Str):Prop:=k ∈ adj b n/\EndK b n
theorem zbp (b:Bk):WellFounded (z2n b):=by
 have h1:∀ n,EndK b n->Acc (z2n b) n:=fun n h=>by
  induction h with
  | mk _ ih=>exact ⟨_,fun y hy=>ih y hy.1⟩
 exact ⟨fun n=>⟨n,fun y hy=>h1 y (hy.2.next hy.1)⟩⟩
open Classical in
noncomputable def ownF (b:Bk) (n:Str) (rec:∀ k,z2n b k n->Lad):Lad:=Lad.maxL Lad.uno ((b.rules n).map (clm b fun k=>if h:z2n b k n then rec k h else Lad.uno))
noncomputable def z01 (b:Bk):Str->Lad:=(zbp b).fix (ownF b)
theorem z2y {b:Bk} (ok:b.Ok) {k:Kd} (hk:k ∈ b) (he:EndK b k.n):z01 b k.n=Lad.maxL Lad.uno (k.rs.map (clm b (z01 b))):=by
 unfold z01;rw [WellFounded.fix_eq];unfold ownF;have er:b.rules k.n=k.rs:=by unfold Bk.rules; rw [Bk.get_self ok.nd hk]
 rw [er]
 congr 1
 refine List.map_congr_left fun r hr=>zaz fun x hx=>?_;have hl:z2n b x.1.1 k.n:=⟨by rw [z1b ok hk]; exact z0l hr hx,he⟩;rw [dif_pos hl]
theorem Gr.Fit.mono {b:Bk} {ρ:Str->Lad} {ns ms:List Str} (h:∀ n ∈ ns,n ∈ ms):∀ {g:Gr},Gr.Fit b ρ ns g->Gr.Fit b ρ ms g
 | .nil,_=>trivial
 | .cons k g m r,hf=>by
  obtain ⟨⟨h1,h2,h3,h4,h5,h6,h7,h8,h9⟩,hg,hr⟩:=hf;exact ⟨⟨h _ h1,h2,h3,h4,h5,h6,h7,h8,h9⟩,Gr.Fit.mono h hg,Gr.Fit.mono h hr⟩
theorem z39 {α:Type} {p q:α->Bool}:∀ {l:List α},(∀ x ∈ l,p x=true->q x=true)->(∃ x ∈ l,q x=true/\p x=false)->(l.filter p).length < (l.filter q).length
 | [],_,⟨x,hx,_⟩=>nomatch hx
 | a::r,h,⟨x,hx,hq,hp⟩=>by
  have hr:∀ x ∈ r,p x=true->q x=true:=fun y hy=>h y (mcm _ hy);have le:∀ l:List α,(∀ x ∈ l,p x=true->q x=true)->(l.filter p).length<=(l.filter q).length:=by
   intro l
   induction l with
   | nil=>intro _; exact Yc _
   | cons c s ih =>
    intro hc;have:=ih fun y hy=>hc y (mcm _ hy);cases hpc:p c with
    | true =>
     rw [List.filter_cons_of_pos hpc,List.filter_cons_of_pos (hc c (mcs ..) hpc)];simpa using this
    | false =>
     rw [List.filter_cons_of_neg (by simp [hpc])];cases hqc:q c with
     | true=>rw [List.filter_cons_of_pos hqc,Yk]; omega
     | false=>rw [List.filter_cons_of_neg (by simp [hqc])]; exact this
  rcases Qv hx with rfl | hx
  ·rw [List.filter_cons_of_neg (by simp [hp]),List.filter_cons_of_pos hq,Yk];have:=le r hr;omega
  ·have ih:=z39 hr ⟨x,hx,hq,hp⟩;cases hpc:p a with
   | true =>
    rw [List.filter_cons_of_pos hpc,List.filter_cons_of_pos (h a (mcs ..) hpc)];simpa using ih
   | false =>
    rw [List.filter_cons_of_neg (by simp [hpc])];cases hqc:q a with
    | true=>rw [List.filter_cons_of_pos hqc,Yk]; omega
    | false=>rw [List.filter_cons_of_neg (by simp [hqc])]; exact ih
open Classical in
noncomputable def cntR (b:Bk) (n:Str):Nat:=(b.names.filter fun k=>decide (Rch b n k)).length
theorem z6v {b:Bk} (ok:b.Ok) {n k:Str} (he:EndK b n) (hk:k ∈ adj b n):cntR b k < cntR b n:=by
 refine z39 (fun x _ hx=>?_) ⟨k,z16 ok hk,?_,?_⟩
 ·simp only [decide_eq_true_eq] at hx ⊢;exact Rch.cons hk hx
 ·simp only [decide_eq_true_eq]; exact .one hk
 ·simp only [decide_eq_false_iff_not]; exact (he.next hk).noring
theorem z8n {b:Bk} {n:Str} (he:EndK b n) (hn:n ∈ b.names):cntR b n < b.length:=by
 have h:=z39 (p:=fun k=>@decide (Rch b n k) (Classical.propDecidable _)) (q:=fun _=>true) (l:=b.names) (fun _ _ _=>rfl) ⟨n,hn,rfl,by simp only [decide_eq_false_iff_not]; exact he.noring⟩;have e:(b.names.filter fun _=>true).length=b.length:=by rw [List.filter_eq_self.mpr (fun _ _=>rfl),Ye]
 rw [e] at h;exact h
def Pm (m:Nat):Nat->Nat
 | 0=>2
 | c+1=>m*Pm m c+2
theorem zai (m:Nat):∀ c,2<=Pm m c
 | 0=>Yc _
 | c+1=>Nat.le_add_left _ _
theorem z8k (e:Lad):∀ bs:List (Lad × Int),((bs.filter fun x=>decide (x.1=e)).map (·.2)).sum=Lad.sumAt bs e
 | []=>rfl
 | (y,m)::r=>by
  rw [Lad.sumAt_cons];by_cases he:y=e
  ·rw [List.filter_cons_of_pos (by simp [he]),List.map_cons,List.sum_cons,z8k e r,if_pos he]
  ·rw [List.filter_cons_of_neg (by simp [he]),z8k e r,if_neg he]; omega
theorem z6s {K:Qn} {H:Hp} {Q:VK} {σ:L2.St} (q:∀ (x:V) (H':Hp),SB [] H H'->LA K H' x Lad.uno->Q x H'):tTup (tCons (tTup (tCons (tTup tNil) (tCons (tC (.int 1)) tNil))) tNil) σ H Q:=by
 refine ⟨by show 0<=sizeLine; decide,fun e ne=>?_⟩;have u1:=SB.new (ps:=[]) ne (.tup []);have h1:upd H e (.tup []) e=some (.tup []):=Qt;generalize upd H e (.tup [])=H1 at u1 h1;refine ⟨by show 2<=sizeLine; decide,fun t nt=>?_⟩;have u2:=SB.new (ps:=[]) nt (.tup [.ref e,.int 1]);have h2:upd H1 t (.tup [.ref e,.int 1]) t=some (.tup [.ref e,.int 1]):=Qt;generalize upd H1 t (.tup [.ref e,.int 1])=H2 at u2 h2;refine ⟨by show 1<=sizeLine; decide,fun r nr=>?_⟩;have u3:=SB.new (ps:=[]) nr (.tup [.ref t]);exact q _ _ ((u1.trans u2).trans u3) (z3j (SqT.of Qt) (u3.sqT (SqT.of h2)) ((z10 (SqT.of h1)).sb (u2.trans u3)))
theorem Lad.maxL_snoc (x:Lad) (ys:List Lad) (y:Lad):Lad.maxL x (ys++[y])=if (Lad.maxL x ys).lt y=true then y else Lad.maxL x ys:=by
 unfold Lad.maxL;rw [List.foldl_append]; rfl
theorem z4g:∀ {bs:List (Tr × Int)},(∀ p ∈ bs,0<=p.2)->0<=allE bs
 | [],_=>Int.le_refl _
 | p::r,h=>by
  have h1:=h p (mcs ..);have h2:=z4g (bs:=r) fun q hq=>h q (mcm _ hq);show 0<=p.2+allE r;omega
theorem zaj {b:Bk} {ρ:Str->Lad} {g k:Gr} {B C D:Int} (hg:(Gr.rk b ρ g).Ok B) (hk:(Gr.rk b ρ k).Ok C) (hB:1<=B) (hC:1<=C) (hj:(Gr.rk b ρ (Gr.tidy (g.ps++k.ps))).Ok D):(Gr.rk b ρ (Gr.tidy (g.ps++k.ps)))=(Gr.rk b ρ g).bth (Gr.rk b ρ k):=by
 refine Lad.ext hj (Lad.bth_ok hg hk hB hC) fun x=>?_;rw [Lad.S_bth,Gr.S_rk,Gr.S_rk,Gr.S_rk,<- z2g];refine z2z _ _ _ _ (Yc _) fun t=>?_;unfold Gr.tidy;rw [Gr.ps_ofPs,z1w]
namespace Lad
def R (l:Lad):Prop:=∃ B:Int,1<=B/\l.Ok B
variable {a b c d l k o:Lad} {m n:Int} {w:Bool}
theorem R.nil:R .nil:=⟨1,by decide,trivial⟩
theorem R.bth (h:R l) (g:R k):R (l.bth k):=by
 obtain ⟨B,hB,h⟩:=h;obtain ⟨C,hC,g⟩:=g;exact ⟨B+C,by omega,bth_ok h g hB hC⟩
theorem R.bhd (h:R l) (g:R k):R (l.bhd k):=by
 obtain ⟨B,hB,h⟩:=h;obtain ⟨C,hC,g⟩:=g;exact ⟨B+C,by omega,bhd_ok h g hB hC⟩
theorem R.tms (h:R l) (hm:0<=m):R (l.tms m):=by
 obtain ⟨B,hB,h⟩:=h;have:=Int.mul_nonneg (show 0<=B by omega) hm;exact ⟨B*m+B,by omega,tms_ok h hm⟩
theorem R.abv (h:R l) (g:R k):R (l.abv k):=by
 obtain ⟨B,hB,h⟩:=h;obtain ⟨C,hC,g⟩:=g;exact ⟨B+(C+2),by omega,abv_ok h g hB hC⟩
theorem R.lad (h:R o) (g:R l):R (lad w o l):=by
 obtain ⟨B,hB,h⟩:=h;obtain ⟨C,hC,g⟩:=g;exact ⟨B+C,by omega,lad_ok h g hB hC⟩
theorem R.uno:R uno:=⟨2,by decide,uno_ok⟩
theorem R.ext (h:R l) (g:R k) (e:∀ x,S l x=S k x):l=k:=by
 obtain ⟨B,hB,h⟩:=h;obtain ⟨C,hC,g⟩:=g;exact Lad.ext h g e
theorem R.lt_iff (h:R l) (g:R k):l.lt k=true ↔ LT' l k:=by
 obtain ⟨B,hB,h⟩:=h;obtain ⟨C,hC,g⟩:=g;exact Lad.lt_iff h g
theorem R.common:∀ {ls:List Lad},(∀ l ∈ ls,R l)->∃ B:Int,1<=B/\∀ l ∈ ls,l.Ok B
 | [],_=>⟨1,by decide,fun l h=>nomatch h⟩
 | x::r,h=>by
  obtain ⟨B,hB,hx⟩:=h x (mcs ..);obtain ⟨C,hC,hr⟩:=R.common (ls:=r) fun l hl=>h l (mcm _ hl);refine ⟨B+C,by omega,fun l hl=>?_⟩;rcases Qv hl with e | e
  ·rw [e]; exact hx.mono (by omega)
  ·exact (hr l e).mono (by omega)
theorem sum_len_le {B:Int} (hB:0<=B) (x:Lad):∀ {ls:List Lad},(∀ l ∈ ls,l.Ok B)->(ls.map fun l=>S l x).sum<=ls.length*B
 | [],_=>by simp
 | y::r,h=>by
  have h1:=ok_pos (h y (mcs ..)) hB x;have h2:=sum_len_le hB x (ls:=r) fun l hl=>h l (mcm _ hl);rw [List.map_cons,List.sum_cons,Yk];have:((r.length+1:Nat):Int)*B=r.length*B+B:=by rw [Int.natCast_add,Int.add_mul]; simp
  omega
theorem R.bths {ls:List Lad} (h:∀ l ∈ ls,R l):R (bths ls):=by
 obtain ⟨B,hB,hb⟩:=R.common h;have hl:(0:Int)<=ls.length*B:=Int.mul_nonneg (Int.natCast_nonneg _) (by omega);exact ⟨ls.length*B+B+1,by omega,bths_ok hb (by omega) (by omega) fun x=>by have:=sum_len_le (by omega) x hb; omega⟩
theorem bths_cons {ls:List Lad} (hl:R l) (h:∀ k ∈ ls,R k):Lad.bths (l::ls)=l.bth (Lad.bths ls):=by
 refine R.ext (R.bths fun k hk=>?_) (hl.bth (R.bths h)) fun x=>?_
 ·rcases Qv hk with e | e
  ·rw [e]; exact hl
  ·exact h k e
 ·rw [Gr.S_bths,S_bth,Gr.S_bths,List.map_cons,List.sum_cons]
def Le (a b:Lad):Prop:=b.lt a=false
theorem Le.refl:Le a a:=lt_irrefl a
theorem Le.trans (h:Le a b) (g:Le b c):Le a c:=le_trans h g
theorem Le.of_lt (h:a.lt b=true):Le a b:=le_of_lt h
theorem Le.nil:Le .nil a:=lt_nil_r a
theorem Le.cases (h:Le a b):a=b\/a.lt b=true:=by
 by_cases e:a=b
 ·exact .inl e
 ·exact .inr (lt_tri b a (fun z=>e z.symm) h)
theorem lt_le (g:a.lt b=true) (h:Le b c):a.lt c=true:=by
 rcases h.cases with e | e
 ·rw [<- e]; exact g
 ·exact lt_trans _ _ _ g e
theorem bth_lt (ra:R a) (rb:R b) (rc:R c) (h:b.lt c=true):(a.bth b).lt (a.bth c)=true:=by
 obtain ⟨A,hA,ra⟩:=ra;obtain ⟨B,hB,rb⟩:=rb;obtain ⟨C,hC,rc⟩:=rc;exact bth_mono ra rb rc hA hB hC h
theorem Le.bth (ra:R a) (rb:R b) (rc:R c) (rd:R d) (h:Le a b) (g:Le c d):Le (a.bth c) (b.bth d):=by
 refine Le.trans (b:=a.bth d) ?_ ?_
 ·rcases g.cases with e | e
  ·rw [e]; exact Le.refl
  ·exact Le.of_lt (bth_lt ra rc rd e)
 ·rw [bth_comm a d,bth_comm b d];rcases h.cases with e | e
  ·rw [e]; exact Le.refl
  ·exact Le.of_lt (bth_lt rd ra rb e)
theorem tms_lt (ra:R a) (rb:R b) (hm:1<=m) (h:a.lt b=true):(a.tms m).lt (b.tms m)=true:=by
 obtain ⟨x,h1,h2⟩:=(ra.lt_iff rb).mp h;refine ((ra.tms (by omega)).lt_iff (rb.tms (by omega))).mpr ⟨x,?_,fun y hy=>?_⟩
 ·rw [S_tms,S_tms]; exact Int.mul_lt_mul_of_pos_right h1 (by omega)
 ·rw [S_tms,S_tms,h2 y hy]
theorem tms_zero:tms l 0=.nil:=by simp [tms]
theorem Le.tms (ra:R a) (rb:R b) (hm:0<=m) (h:Le a b):Le (a.tms m) (b.tms m):=by
 by_cases m0:m=0
 ·rw [m0,tms_zero]; exact Le.nil
 rcases h.cases with e | e
 ·rw [e]; exact Le.refl
 ·exact Le.of_lt (tms_lt ra rb (by omega) e)
theorem le_bth (ra:R a) (rb:R b):Le a (a.bth b):=by
 obtain ⟨A,hA,ra⟩:=ra;obtain ⟨B,hB,rb⟩:=rb;exact Le.trans (bhd_ge ra rb hA hB) (bth_ge_bhd ra rb hA hB)
theorem tms_le (r:R l) (h0:0<=m) (h:m<=n):Le (l.tms m) (l.tms n):=by
 have e:l.tms n=(l.tms m).bth (l.tms (n-m)):=by
  refine R.ext (r.tms (by omega)) ((r.tms h0).bth (r.tms (by omega))) fun x=>?_;rw [S_bth,S_tms,S_tms,S_tms,Int.mul_sub]; omega
 rw [e];exact le_bth (r.tms h0) (r.tms (by omega))
theorem bhd_lt (ra:R a) (rb:R b) (rc:R c) (h:b.lt c=true):(a.bhd b).lt (a.bhd c)=true:=by
 obtain ⟨A,hA,ra⟩:=ra;obtain ⟨B,hB,rb⟩:=rb;obtain ⟨C,hC,rc⟩:=rc;exact bhd_mono ra rb rc hA hB hC h
theorem le_bhd1 (ra:R a) (rb:R b):Le a (a.bhd b):=by
 obtain ⟨A,hA,ra⟩:=ra;obtain ⟨B,hB,rb⟩:=rb;exact bhd_ge ra rb hA hB
theorem R.exp {e:Lad} {m:Int} {r:Lad} (h:R (.cons e m r)):R e:=by
 obtain ⟨B,hB,h⟩:=h;exact ⟨B,hB,h.1⟩
theorem exp_grows (re:R a) (rl:R l) (h:l ≠ .nil):a.lt (a.bhd l)=true:=by
 have h1:=bhd_lt re R.nil rl (nil_le l h)
 rwa [bhd_nil] at h1
theorem top_lt {e e2:Lad} {m m2:Int} {r r2:Lad} (h:e.lt e2=true):Lad.lt (.cons e m r) (.cons e2 m2 r2)=true:=by
 rw [lt_cons,if_neg (lt_ne h)]; exact h
theorem spd_cons {e:Lad} {m:Int} {r:Lad} (h:l ≠ .nil):spd (.cons e m r) l=.cons (e.bhd l) 1 .nil:=by
 cases l with
 | nil=>exact absurd rfl h
 | cons _ _ _=>rfl
theorem lad_lt (ro:R o) (rl:R l) (rk:R k) (ho:o ≠ .nil) (h:l.lt k=true):(lad w o l).lt (lad w o k)=true:=by
 cases w with
 | false=>exact bhd_lt ro rl rk h
 | true =>
  show (spd o l).lt (spd o k)=true;have hk:k ≠ .nil:=fun z=>by rw [z,lt_nil_r] at h; cases h
  cases o with
  | nil=>exact absurd rfl ho
  | cons e m r =>
   rw [spd_cons hk];by_cases hl:l=.nil
   ·rw [hl];show Lad.lt (.cons e m r) _=true;exact top_lt (exp_grows ro.exp rk hk)
   ·rw [spd_cons hl];exact top_lt (bhd_lt ro.exp rl rk h)
theorem le_lad1 (ro:R o) (rl:R l) (ho:o ≠ .nil):Le o (lad w o l):=by
 cases w with
 | false=>exact le_bhd1 ro rl
 | true =>
  show Le o (spd o l);cases o with
  | nil=>exact absurd rfl ho
  | cons e m r =>
   by_cases hl:l=.nil
   ·rw [hl]; exact Le.refl
   ·rw [spd_cons hl]; exact Le.of_lt (top_lt (exp_grows ro.exp rl hl))
theorem above_gt (rl:R l) (rk:R k) (hn:0<=n):(l.bth (k.tms n)).lt (l.abv k)=true:=by
 obtain ⟨B,hB,rl⟩:=rl;obtain ⟨C,hC,rk⟩:=rk;exact abv_gt rl rk hB hC hn
theorem above_least (rl:R l) (rk:R k) (ra:R a) (h:a.lt (l.abv k)=true) (hn:eno k a<=n):Le a (l.bth (k.tms n)):=by
 obtain ⟨A,hA,ra'⟩:=ra;have e0:=eno_nonneg (k:=k) ra';have rl':=rl;have rk':=rk;obtain ⟨B,hB,rl⟩:=rl;obtain ⟨C,hC,rk⟩:=rk;have h1:Le a (l.bth (k.tms (eno k a))):=abv_least rl rk ra' hB hC h;exact h1.trans (Le.bth rl' rl' (rk'.tms e0) (rk'.tms (by omega)) Le.refl (tms_le rk' e0 hn))
end Lad
namespace Gr
variable {b:Bk} {ρ σ:Str->Lad} {C:Int}
def RN (ρ:Str->Lad) (g:Gr):Prop:=∀ x ∈ g.within,Lad.R (ρ x.1.1)/\ρ x.1.1 ≠ .nil
theorem RN.cons {k:Str} {g r:Gr} {m:Int} (h:RN ρ (.cons k g m r)):(Lad.R (ρ k)/\ρ k ≠ .nil)/\RN ρ g/\RN ρ r :=
 ⟨h ((k,g),m) (mcs ..),fun x hx=>h x (mcm _ (mal _ hx)),fun x hx=>h x (mcm _ (mar _ hx))⟩
theorem rkT_R:∀ {g:Gr},g.Ok C->RN ρ g->∀ l ∈ rkT b ρ g,Lad.R l
 | .nil,_,_,l,hl=>nomatch hl
 | .cons k g m r,ho,h,l,hl=>by
  obtain ⟨h1,h2,h3⟩:=h.cons;obtain ⟨o1,o2,o3,o4,o5,_⟩:=ho;rcases Qv hl with e | e
  ·rw [e]; exact (h1.1.lad (Lad.R.bths (rkT_R o2 h2))).tms (by omega)
  ·exact rkT_R o5 h3 l e
theorem rk_R {g:Gr} (ho:g.Ok C) (h:RN ρ g):Lad.R (rk b ρ g):=Lad.R.bths (rkT_R ho h)
theorem rk_cons {k:Str} {g r:Gr} {m:Int} (ho:(Gr.cons k g m r).Ok C) (h:RN ρ (.cons k g m r)):rk b ρ (.cons k g m r)=(Lad.tms (rkt b ρ (k,g)) m).bth (rk b ρ r):=by
 obtain ⟨h1,h2,h3⟩:=h.cons;obtain ⟨o1,o2,o3,o4,o5,_⟩:=ho;exact Lad.bths_cons ((h1.1.lad (rk_R o2 h2)).tms (by omega)) (rkT_R o5 h3)
theorem rk_tmsG {g:Gr} {m:Int} (hm:0<=m) (hg:Lad.R (rk b ρ g)) (hk:Lad.R (rk b ρ (tmsG g m))):rk b ρ (tmsG g m)=Lad.tms (rk b ρ g) m:=by
 refine Lad.R.ext hk (hg.tms hm) fun x=>?_;rw [S_rk,Lad.S_tms,S_rk];by_cases h0:m=0
 ·subst h0; simp [tmsG,Gr.ps,wsum]
 ·rw [tmsG,if_neg h0,ps_ofPs,wsum_tms]
theorem rk_tgtG {g k:Gr} (hg:Lad.R (rk b ρ g)) (hk:Lad.R (rk b ρ k)) (hj:Lad.R (rk b ρ (tgt g k))):rk b ρ (tgt g k)=(rk b ρ g).bth (rk b ρ k):=by
 obtain ⟨B,hB,hg⟩:=hg;obtain ⟨C,hC,hk⟩:=hk;obtain ⟨D,hD,hj⟩:=hj;exact zaj hg hk hB hC hj
theorem RN.named {ns:List Str} {g:Gr} (h:∀ n ∈ ns,Lad.R (ρ n)/\ρ n ≠ .nil) (hn:Named ns g):RN ρ g:=fun x hx=>h _ (hn x hx)
theorem rk_grw {r:Ru} {n:Int} {ns:List Str} (rok:RuOk r) (hn:0<=n) (h:∀ n ∈ ns,Lad.R (ρ n)/\ρ n ≠ .nil) (h1:Named ns r.1) (h2:Named ns r.2):rk b ρ (grw r n)=(rk b ρ r.1).bth (Lad.tms (rk b ρ r.2) n):=by
 obtain ⟨o1,o2,_⟩:=rok;have r1:=rk_R (b:=b) o1 (RN.named h h1);have r2:=rk_R (b:=b) o2 (RN.named h h2);have ot:=tms_ok o2 (by decide) hn;have nt:=named_tms h2 n;have rt:=rk_R (b:=b) ot (RN.named h nt);have z:=Int.mul_nonneg (show (0:Int)<=1000000001 by decide) hn;have rj:=rk_R (b:=b) (tgt_ok2 o1 ot (by decide) (by omega)) (RN.named h (named_tgt h1 nt));unfold grw;rw [rk_tgtG r1 rt rj,rk_tmsG hn r2 rt]
end Gr
theorem zih {b:Bk} {ρ:Str->Lad} {ns:List Str} {r:Ru} (rok:RuOk r) (h:∀ n ∈ ns,Lad.R (ρ n)/\ρ n ≠ .nil) (h1:Gr.Named ns r.1) (h2:Gr.Named ns r.2):Lad.R (clm b ρ r):=(Gr.rk_R rok.1 (Gr.RN.named h h1)).abv (Gr.rk_R rok.2.1 (Gr.RN.named h h2))
theorem Bk.Ok.named {b:Bk} (ok:b.Ok) {k:Kd} (hk:k ∈ b) {r:Ru} (hr:r ∈ k.rs):RuOk r/\Gr.Named b.names r.1/\Gr.Named b.names r.2:=by
 obtain ⟨h1,h2⟩:=(ok.kd k hk).2.2 r hr;exact ⟨h1,fun x hx=>h2 x (mal _ hx),fun x hx=>h2 x (mar _ hx)⟩
theorem zdh {b:Bk} (ok:b.Ok) {n:Str} (he:EndK b n):n ∈ b.names->Lad.R (z01 b n)/\z01 b n ≠ .nil:=by
 induction he with
 | mk h ih =>
  rename_i n;intro hn;obtain ⟨k,eg⟩:=Bk.get_of hn;obtain ⟨hk,rfl⟩:=Bk.get_some eg;have eq:=z2y ok hk (.mk h);have hadj:=z1b ok hk;have ne:z01 b k.n ≠ .nil:=fun z=>by
   have:=Lad.maxL_ge (k.rs.map (clm b (z01 b))) Lad.uno Lad.uno (mcs ..);rw [<- eq,z] at this;rw [Lad.lt_nil_cons] at this; cases this
  refine ⟨?_,ne⟩;rw [eq];rcases Qv (Lad.maxL_mem (k.rs.map (clm b (z01 b))) Lad.uno) with e | e
  ·rw [e]; exact Lad.R.uno
  ·obtain ⟨r,hr,e⟩:=Qx e;rw [<- e];have nm:Gr.Named (adj b k.n) r.1/\Gr.Named (adj b k.n) r.2:=⟨fun x hx=>by rw [hadj]; exact z0l hr (mal _ hx),fun x hx=>by rw [hadj]; exact z0l hr (mar _ hx)⟩;exact zih (ok.named hk hr).1 (fun n hn=>ih n hn (z16 ok hn)) nm.1 nm.2
namespace Gr
variable {b:Bk} {ρ σ:Str->Lad} {C:Int} {ns:List Str}
theorem rk_numsX {x:Nat} (hk:∀ n ∈ ns,(ρ n).Ok (2 ^ x)):∀ {g:Gr},Named ns g->g.Ok (2 ^ 119)->(∀ l ∈ rkT b ρ g,l.Ok (2 ^ (x+121*g.parts)))/\∀ y,((rkT b ρ g).map fun l=>Lad.S l y).sum < 2 ^ (x+121*g.parts)
 | .nil,_,_=>And.intro (fun l hl=>nomatch hl) (fun y=>by
  show (0:Int) < _;have:=z06 (x+121*Gr.nil.parts); omega)
 | .cons k g m r,h,ho=>by
  obtain ⟨_,hg,hm1,hm2,hr,_⟩:=ho;have hkn:k ∈ ns:=h ((k,g),m) (mcs ..);obtain ⟨g1,g2⟩:=rk_numsX hk (g:=g) (fun x hx=>h x (mcm _ (mal _ hx))) hg;obtain ⟨r1,r2⟩:=rk_numsX hk (g:=r) (fun x hx=>h x (mcm _ (mar _ hx))) hr;have e1:(Gr.cons k g m r).parts=1+g.parts+r.parts:=rfl;have p0:=z06 (x+121*g.parts);have px:=z06 x;have io:(Lad.bths (rkT b ρ g)).Ok (2 ^ (x+121*g.parts)):=Lad.bths_ok g1 (by omega) (Int.le_refl _) g2;have lo:=Lad.lad_ok (w:=b.wide k) (hk k hkn) io px p0;have m1:=z04 (show x<=x+121*g.parts by omega);have lo2:(lad (b.wide k) (ρ k) (Lad.bths (rkT b ρ g))).Ok (2 ^ (x+121*g.parts+1)):=lo.mono (by rw [z0o]; omega);have to:=Lad.tms_ok lo2 (show 0<=m by omega);have q0:=z06 (x+121*g.parts+1);have hb:2 ^ (x+121*g.parts+1)*m+2 ^ (x+121*g.parts+1)<=2 ^ (x+121*g.parts+120):=by
   have:(2:Int) ^ (x+121*g.parts+120)=2 ^ (x+121*g.parts+1)*2 ^ 119:=by rw [<- Int.pow_add]
   rw [this];have h2:(2:Int) ^ (x+121*g.parts+1)*(m+1)<=2 ^ (x+121*g.parts+1)*2 ^ 119:=Int.mul_le_mul_of_nonneg_left (by omega) (by omega);rw [Int.mul_add,Int.mul_one] at h2;exact h2
  have to2:=to.mono hb;have w1:=z04 (show x+121*g.parts+120<=x+121*(1+g.parts+r.parts)-1 by omega);have w2:=z04 (show x+121*r.parts<=x+121*(1+g.parts+r.parts)-1 by omega);have w3:=z0o (x+121*(1+g.parts+r.parts)-1);rw [show x+121*(1+g.parts+r.parts)-1+1=x+121*(1+g.parts+r.parts) by omega] at w3;have w0:=z06 (x+121*(1+g.parts+r.parts)-1);rw [e1];refine ⟨fun l hl=>?_,fun y=>?_⟩
  ·rcases Qv hl with rfl | hl
   ·exact to2.mono (by omega)
   ·exact (r1 l hl).mono (by omega)
  ·show Lad.S (Lad.tms (lad (b.wide k) (ρ k) (Lad.bths (rkT b ρ g))) m) y+((rkT b ρ r).map fun l=>Lad.S l y).sum < _;have s2:=r2 y;have s3:Lad.S (Lad.tms (lad (b.wide k) (ρ k) (Lad.bths (rkT b ρ g))) m) y < 2 ^ (x+121*g.parts+120)\/Lad.S (Lad.tms (lad (b.wide k) (ρ k) (Lad.bths (rkT b ρ g))) m) y<=0:=by
    rcases Lad.S_cases to2 y with ⟨h1,_⟩ | ⟨mm,_,h2,_,h4⟩
    ·right; omega
    ·left; omega
   have w4:=z06 (x+121*g.parts+120);rcases s3 with s3 | s3 <;> omega
end Gr
namespace Gr
variable {b:Bk} {ρ σ:Str->Lad} {C:Int} {ns:List Str}
theorem rk_numsY {x:Nat} (hk:∀ n ∈ ns,(ρ n).Ok (2 ^ x)):∀ {g:Gr},Named ns g->g.Ok (2 ^ 30)->(∀ l ∈ rkT b ρ g,l.Ok (2 ^ (x+32*g.parts)))/\∀ y,((rkT b ρ g).map fun l=>Lad.S l y).sum < 2 ^ (x+32*g.parts)
 | .nil,_,_=>And.intro (fun l hl=>nomatch hl) (fun y=>by
  show (0:Int) < _;have:=z06 (x+32*Gr.nil.parts); omega)
 | .cons k g m r,h,ho=>by
  obtain ⟨_,hg,hm1,hm2,hr,_⟩:=ho;have hkn:k ∈ ns:=h ((k,g),m) (mcs ..);obtain ⟨g1,g2⟩:=rk_numsY hk (g:=g) (fun x hx=>h x (mcm _ (mal _ hx))) hg;obtain ⟨r1,r2⟩:=rk_numsY hk (g:=r) (fun x hx=>h x (mcm _ (mar _ hx))) hr;have e1:(Gr.cons k g m r).parts=1+g.parts+r.parts:=rfl;have p0:=z06 (x+32*g.parts);have px:=z06 x;have io:(Lad.bths (rkT b ρ g)).Ok (2 ^ (x+32*g.parts)):=Lad.bths_ok g1 (by omega) (Int.le_refl _) g2;have lo:=Lad.lad_ok (w:=b.wide k) (hk k hkn) io px p0;have m1:=z04 (show x<=x+32*g.parts by omega);have lo2:(lad (b.wide k) (ρ k) (Lad.bths (rkT b ρ g))).Ok (2 ^ (x+32*g.parts+1)):=lo.mono (by rw [z0o]; omega);have to:=Lad.tms_ok lo2 (show 0<=m by omega);have q0:=z06 (x+32*g.parts+1);have hb:2 ^ (x+32*g.parts+1)*m+2 ^ (x+32*g.parts+1)<=2 ^ (x+32*g.parts+31):=by
   have:(2:Int) ^ (x+32*g.parts+31)=2 ^ (x+32*g.parts+1)*2 ^ 30:=by rw [<- Int.pow_add]
   rw [this];have h2:(2:Int) ^ (x+32*g.parts+1)*(m+1)<=2 ^ (x+32*g.parts+1)*2 ^ 30:=Int.mul_le_mul_of_nonneg_left (by omega) (by omega);rw [Int.mul_add,Int.mul_one] at h2;exact h2
  have to2:=to.mono hb;have w1:=z04 (show x+32*g.parts+31<=x+32*(1+g.parts+r.parts)-1 by omega);have w2:=z04 (show x+32*r.parts<=x+32*(1+g.parts+r.parts)-1 by omega);have w3:=z0o (x+32*(1+g.parts+r.parts)-1);rw [show x+32*(1+g.parts+r.parts)-1+1=x+32*(1+g.parts+r.parts) by omega] at w3;have w0:=z06 (x+32*(1+g.parts+r.parts)-1);rw [e1];refine ⟨fun l hl=>?_,fun y=>?_⟩
  ·rcases Qv hl with rfl | hl
   ·exact to2.mono (by omega)
   ·exact (r1 l hl).mono (by omega)
  ·show Lad.S (Lad.tms (lad (b.wide k) (ρ k) (Lad.bths (rkT b ρ g))) m) y+((rkT b ρ r).map fun l=>Lad.S l y).sum < _;have s2:=r2 y;have s3:Lad.S (Lad.tms (lad (b.wide k) (ρ k) (Lad.bths (rkT b ρ g))) m) y < 2 ^ (x+32*g.parts+31)\/Lad.S (Lad.tms (lad (b.wide k) (ρ k) (Lad.bths (rkT b ρ g))) m) y<=0:=by
    rcases Lad.S_cases to2 y with ⟨h1,_⟩ | ⟨mm,_,h2,_,h4⟩
    ·right; omega
    ·left; omega
   have w4:=z06 (x+32*g.parts+31);rcases s3 with s3 | s3 <;> omega
theorem rk_fitY {P D x:Nat} (hk:∀ n ∈ ns,n ∈ b.names/\ρ n ≠ .nil/\(ρ n).parts<=P/\(ρ n).deep<=D/\(ρ n).Ok (2 ^ x)) (hP:1<=P):∀ {g:Gr},Named ns g->g.Ok (2 ^ 30)->P*g.parts<=390->D+g.deep<=24->x+32*g.parts<=2000->Fit b ρ ns g
 | .nil,_,_,_,_,_=>trivial
 | .cons k g m r,h,ho,hp,hd,hx=>by
  have hP':∀ n ∈ ns,(ρ n).parts<=P/\(ρ n).deep<=D:=fun n hn=>⟨(hk n hn).2.2.1,(hk n hn).2.2.2.1⟩;have hX':∀ n ∈ ns,(ρ n).Ok (2 ^ x):=fun n hn=>(hk n hn).2.2.2.2;have nm:2 ^ 30<=(2:Int) ^ 2000:=z04 (by decide);obtain ⟨hkn,hnn⟩:k ∈ ns/\(Named ns g/\Named ns r):=⟨h ((k,g),m) (mcs ..),fun x hx=>h x (mcm _ (mal _ hx)),fun x hx=>h x (mcm _ (mar _ hx))⟩;obtain ⟨ok0,hg,hm1,hm2,hr,hrise⟩:=ho;have ho:(Gr.cons k g m r).Ok (2 ^ 30):=⟨ok0,hg,hm1,hm2,hr,hrise⟩;have e1:(Gr.cons k g m r).parts=1+g.parts+r.parts:=rfl;have e2:(Gr.cons k g m r).deep=max (1+g.deep) r.deep:=rfl;rw [e1,Nat.mul_add,Nat.mul_add,Nat.mul_one] at hp;rw [e1] at hx;obtain ⟨s1,s2⟩:=rk_size hP' h;obtain ⟨g1,g2⟩:=rk_size hP' hnn.1;obtain ⟨n1,n2⟩:=rk_numsY hX' hnn.1 hg;have p0:=z06 (x+32*g.parts);have px:=z06 x;have io:(Lad.bths (rkT b ρ g)).Ok (2 ^ (x+32*g.parts)):=Lad.bths_ok n1 (by omega) (Int.le_refl _) n2;have lo:=(Lad.lad_ok (w:=b.wide k) (hX' k hkn) io px p0);have m1:=z04 (show x<=x+32*g.parts by omega);have m2:=z04 (show x+32*g.parts+1<=2000 by omega);have m3:=z0o (x+32*g.parts);obtain ⟨kb,kne,kp,kd,kx⟩:=hk k hkn;have num:∀ {l:Lad},l.Ok (2 ^ 2000)->∀ p ∈ l.ps,0<=p.2/\p.2 < 2 ^ 2000:=fun hl p hp=>by
   have:=(Lad.ok_iff.mp hl).1 p hp;exact ⟨by omega,this.2.2⟩
  have ip:(Lad.bths (rkT b ρ g)).parts<=P*g.parts:=Yb (Lad.bths_parts _) g1;have idp:(Lad.bths (rkT b ρ g)).deep<=D+g.deep:=Lad.bths_deep g2;have lp:=Lad.lad_parts (b.wide k) (ρ k) (Lad.bths (rkT b ρ g));have ld:=Lad.lad_deep (w:=b.wide k) (o:=ρ k) (l:=Lad.bths (rkT b ρ g)) (n:=D+g.deep) (by omega) idp;refine ⟨⟨hkn,kb,kne,⟨by omega,by omega,num (kx.mono (by omega))⟩,⟨by show (Lad.bths (rkT b ρ g)).deep<=25; omega,by show (Lad.bths (rkT b ρ g)).parts<=900; omega,num (io.mono (by omega))⟩,⟨by show (lad (b.wide k) (ρ k) (Lad.bths (rkT b ρ g))).deep<=25; omega,by show (lad (b.wide k) (ρ k) (Lad.bths (rkT b ρ g))).parts<=900; omega,num (lo.mono (by omega))⟩,by omega,by omega,?_⟩,rk_fitY hk hP hnn.1 hg (by omega) (by omega) (by omega),rk_fitY hk hP hnn.2 hr (by omega) (by omega) (by omega)⟩;have key:∀ ls:List Lad,(ls.flatMap Lad.ps).length<=(ls.map Lad.parts).sum:=by
   intro ls
   induction ls with
   | nil=>exact Yc _
   | cons l r ih =>
    rw [List.flatMap_cons,Yf,List.map_cons,List.sum_cons,Lad.ps_length];have:=l.len_parts;omega
  have:=key (rkT b ρ (.cons k g m r));rw [e1,Nat.mul_add,Nat.mul_add,Nat.mul_one] at s1;exact Yb (Yb this s1) (by omega)
end Gr
theorem z4w {b:Bk} {ρ:Str->Lad} {ns:List Str} {P D x m:Nat} {r:Ru} (hk:∀ n ∈ ns,(ρ n).parts<=P/\(ρ n).deep<=D) (hx:∀ n ∈ ns,(ρ n).Ok (2 ^ x)) (h1:Gr.Named ns r.1) (h2:Gr.Named ns r.2) (o1:r.1.Ok (2 ^ 30)) (o2:r.2.Ok (2 ^ 30)) (hs:r.1.parts+r.2.parts<=m) (hD:2<=D) :
  (clm b ρ r).parts<=m*P+2/\(clm b ρ r).deep<=D+m/\(clm b ρ r).Ok (2 ^ (x+32*m+2))/\(Gr.rk b ρ r.1).deep<=D+m/\(Gr.rk b ρ r.2).deep<=D+m/\(Gr.rk b ρ r.1).parts<=m*P/\(Gr.rk b ρ r.2).parts<=m*P:=by
 obtain ⟨a1,a2⟩:=Gr.rk_size (b:=b) hk h1;obtain ⟨b1,b2⟩:=Gr.rk_size (b:=b) hk h2;obtain ⟨c1,c2⟩:=Gr.rk_numsY (b:=b) hx h1 o1;obtain ⟨d1,d2⟩:=Gr.rk_numsY (b:=b) hx h2 o2;have w1:=z07 r.1;have w2:=z07 r.2;have p1:(Gr.rk b ρ r.1).parts<=P*r.1.parts:=Yb (Lad.bths_parts _) a1;have p2:(Gr.rk b ρ r.2).parts<=P*r.2.parts:=Yb (Lad.bths_parts _) b1;have q1:(Gr.rk b ρ r.1).deep<=D+r.1.deep:=Lad.bths_deep a2;have q2:(Gr.rk b ρ r.2).deep<=D+r.2.deep:=Lad.bths_deep b2;have e1:=z06 (x+32*r.1.parts);have e2:=z06 (x+32*r.2.parts);have k1:(Gr.rk b ρ r.1).Ok (2 ^ (x+32*r.1.parts)):=Lad.bths_ok c1 (by omega) (Int.le_refl _) c2;have k2:(Gr.rk b ρ r.2).Ok (2 ^ (x+32*r.2.parts)):=Lad.bths_ok d1 (by omega) (Int.le_refl _) d2;have ko:=Lad.abv_ok k1 k2 e1 e2;have hm:P*r.1.parts+P*r.2.parts<=m*P:=by
  rw [<- Nat.mul_add,Nat.mul_comm m P];exact Nat.mul_le_mul_left _ hs
 have ap:=Lad.abv_parts (Gr.rk b ρ r.1) (Gr.rk b ρ r.2);have ad:=Lad.abv_deep (n:=D+m) (l:=Gr.rk b ρ r.1) (k:=Gr.rk b ρ r.2) (by omega) (by omega) (by omega);have m1:=z04 (show x+32*r.1.parts<=x+32*m by omega);have m2:=z04 (show x+32*r.2.parts<=x+32*m by omega);have m3:=z0o (x+32*m);have m4:(2:Int) ^ (x+32*m+2)=2*2 ^ (x+32*m+1):=z0o (x+32*m+1);have m5:=z06 (x+32*m);exact ⟨by unfold clm; omega,ad,ko.mono (by omega),by omega,by omega,by omega,by omega⟩
structure BndY (m c:Nat) (l:Lad):Prop where
 ne:l ≠ .nil
 parts:l.parts<=Pm m c
 deep:l.deep<=2+m*c
 ok:l.Ok (2 ^ (2+(32*m+2)*c))
theorem z4n {b:Bk} (ok:b.Ok) {m:Nat} (hm:∀ k ∈ b,EndK b k.n->∀ r ∈ k.rs,r.1.Ok (2 ^ 30)/\r.2.Ok (2 ^ 30)/\r.1.parts+r.2.parts<=m):∀ (c:Nat) (k:Kd),k ∈ b->EndK b k.n->cntR b k.n<=c->BndY m c (z01 b k.n)
 | c,k,hk,he,hc=>by
  have hadj:=z1b ok hk;have nm:∀ r ∈ k.rs,Gr.Named (adj b k.n) r.1/\Gr.Named (adj b k.n) r.2:=fun r hr=>⟨fun x hx=>by rw [hadj]; exact z0l hr (mal _ hx),fun x hx=>by rw [hadj]; exact z0l hr (mar _ hx)⟩;have eq:=z2y ok hk he;have ne:z01 b k.n ≠ .nil:=fun z=>by
   have:=Lad.maxL_ge (k.rs.map (clm b (z01 b))) Lad.uno Lad.uno (mcs ..);rw [<- eq,z] at this;rw [Lad.lt_nil_cons] at this; cases this
  have p2:=zai m c;have x0:(2:Int)<=2 ^ (2+(32*m+2)*c):=by
   have:=z04 (show 1<=2+(32*m+2)*c by omega);exact this
  have ofClm:(∀ r ∈ k.rs,(clm b (z01 b) r).parts<=Pm m c/\(clm b (z01 b) r).deep<=2+m*c/\(clm b (z01 b) r).Ok (2 ^ (2+(32*m+2)*c)))->BndY m c (z01 b k.n):=fun h=>by
   refine ⟨ne,?_,?_,?_⟩ <;> rw [eq] <;> rcases Qv (Lad.maxL_mem (k.rs.map (clm b (z01 b))) Lad.uno) with e | e
   ·rw [e]; show 1<=_; omega
   ·obtain ⟨r,hr,e⟩:=Qx e;rw [<- e]; exact (h r hr).1
   ·rw [e]; show 1<=_; omega
   ·obtain ⟨r,hr,e⟩:=Qx e;rw [<- e]; exact (h r hr).2.1
   ·rw [e]; exact Lad.uno_ok.mono x0
   ·obtain ⟨r,hr,e⟩:=Qx e;rw [<- e]; exact (h r hr).2.2
  cases c with
  | zero =>
   have h0:adj b k.n=[]:=by
    cases ha:adj b k.n with
    | nil=>rfl
    | cons y ys =>
     have:=z6v ok he (k:=y) (by rw [ha]; exact mcs ..);omega
   refine ofClm fun r hr=>?_;obtain ⟨n1,n2⟩:=nm r hr;rw [h0] at n1 n2;have nil_of:∀ g:Gr,Gr.Named [] g->g=.nil:=fun g h=>by
    cases g with
    | nil=>rfl
    | cons k g m r=>exact absurd (h ((k,g),m) (mcs ..)) (by simp)
   have e:r=(.nil,.nil):=Prod.ext (nil_of _ n1) (nil_of _ n2);rw [e,z3e];exact ⟨by show 1<=2; decide,by show 1<=_; omega,Lad.uno_ok.mono x0⟩
  | succ c =>
   have hch:∀ n ∈ adj b k.n,BndY m c (z01 b n):=fun n hn=>by
    have hlt:=z6v ok he hn;obtain ⟨kd,eg⟩:=Bk.get_of (z16 ok hn);obtain ⟨hkd,rfl⟩:=Bk.get_some eg;exact z4n ok hm c kd hkd (he.next hn) (by omega)
   refine ofClm fun r hr=>?_;obtain ⟨n1,n2⟩:=nm r hr;obtain ⟨o1,o2,hs⟩:=hm k hk he r hr;obtain ⟨c1,c2,c3,_⟩:=z4w (b:=b) (ρ:=z01 b) (P:=Pm m c) (D:=2+m*c) (x:=2+(32*m+2)*c) (fun n hn=>⟨(hch n hn).parts,(hch n hn).deep⟩) (fun n hn=>(hch n hn).ok) n1 n2 o1 o2 hs (by omega);refine ⟨c1,by rw [Nat.mul_succ]; omega,?_⟩;have:2+(32*m+2)*(c+1)=2+(32*m+2)*c+32*m+2:=by rw [Nat.mul_succ]; omega
   rw [this]; exact c3
theorem zb6 {b:Bk} (ok:b.Ok) {m:Nat} (hm:∀ k ∈ b,EndK b k.n->∀ r ∈ k.rs,r.1.Ok (2 ^ 30)/\r.2.Ok (2 ^ 30)/\r.1.parts+r.2.parts<=m) (hP:m*Pm m (b.length-2)<=390) (hD:2+m*(b.length-2)+m<=24) (hX:2+(32*m+2)*(b.length-2)+32*m<=2000):OwnR b (z01 b)/\∀ n ∈ b.names,EndK b n->BndY m (b.length-1) (z01 b n):=by
 have hb:∀ n ∈ b.names,EndK b n->BndY m (b.length-1) (z01 b n):=fun n hn he=>by
  obtain ⟨kd,eg⟩:=Bk.get_of hn;obtain ⟨hkd,rfl⟩:=Bk.get_some eg;have:=z8n he hn;exact z4n ok hm _ kd hkd he (by omega)
 have hch:∀ k ∈ b,EndK b k.n->∀ n ∈ adj b k.n,BndY m (b.length-2) (z01 b n):=fun k hk he n hn=>by
  obtain ⟨kd,eg⟩:=Bk.get_of (z16 ok hn);obtain ⟨hkd,rfl⟩:=Bk.get_some eg;have h1:=z6v ok he hn;have h2:=z8n he (List.mem_map.mpr ⟨k,hk,rfl⟩);exact z4n ok hm _ kd hkd (he.next hn) (by omega)
 have p2:=zai m (b.length-2);refine ⟨⟨fun k hk he=>z2y ok hk he,fun k hk he ns hns r hr=>?_,fun k hk he r hr=>?_⟩,hb⟩
 ·have hadj:=z1b ok hk;have n1:Gr.Named (adj b k.n) r.1:=fun x hx=>by rw [hadj]; exact z0l hr (mal _ hx)
  have n2:Gr.Named (adj b k.n) r.2:=fun x hx=>by rw [hadj]; exact z0l hr (mar _ hx)
  obtain ⟨o1,o2,hs⟩:=hm k hk he r hr;have hc:=hch k hk he;obtain ⟨_,_,_,d1,d2,q1,q2⟩:=z4w (b:=b) (ρ:=z01 b) (P:=Pm m (b.length-2)) (D:=2+m*(b.length-2)) (x:=2+(32*m+2)*(b.length-2)) (fun n hn=>⟨(hc n hn).parts,(hc n hn).deep⟩) (fun n hn=>(hc n hn).ok) n1 n2 o1 o2 hs (by omega);have w1:=z07 r.1;have w2:=z07 r.2;have hP1:Pm m (b.length-2)*r.1.parts<=390:=Yb (Nat.mul_le_mul_left _ (show r.1.parts<=m by omega)) (by rw [Nat.mul_comm]; exact hP);have hP2:Pm m (b.length-2)*r.2.parts<=390:=Yb (Nat.mul_le_mul_left _ (show r.2.parts<=m by omega)) (by rw [Nat.mul_comm]; exact hP);have hk':∀ n ∈ adj b k.n,n ∈ b.names/\z01 b n ≠ .nil/\(z01 b n).parts<=Pm m (b.length-2)/\(z01 b n).deep<=2+m*(b.length-2)/\(z01 b n).Ok (2 ^ (2+(32*m+2)*(b.length-2))):=fun n hn=>⟨z16 ok hn,(hc n hn).ne,(hc n hn).parts,(hc n hn).deep,(hc n hn).ok⟩;exact ⟨(Gr.rk_fitY hk' (by omega) n1 o1 hP1 (by omega) (by omega)).mono hns,(Gr.rk_fitY hk' (by omega) n2 o2 hP2 (by omega) (by omega)).mono hns,by omega,by omega,by omega,by omega⟩
 ·have hadj:=z1b ok hk;have n1:Gr.Named (adj b k.n) r.1:=fun x hx=>by rw [hadj]; exact z0l hr (mal _ hx)
  have n2:Gr.Named (adj b k.n) r.2:=fun x hx=>by rw [hadj]; exact z0l hr (mar _ hx)
  obtain ⟨o1,o2,hs⟩:=hm k hk he r hr;have hc:=hch k hk he;obtain ⟨_,d0,_⟩:=z4w (b:=b) (ρ:=z01 b) (P:=Pm m (b.length-2)) (D:=2+m*(b.length-2)) (x:=2+(32*m+2)*(b.length-2)) (fun n hn=>⟨(hc n hn).parts,(hc n hn).deep⟩) (fun n hn=>(hc n hn).ok) n1 n2 o1 o2 hs (by omega);omega
theorem z3d {α:Type} [DecidableEq α] {x:α}:∀ {l:List α},x ∈ l->∃ j:Nat,l[j]?=some x/\∀ (i:Nat),i < j->l[i]? ≠ some x
 | [],h=>nomatch h
 | a::l,h=>by
  by_cases e:a=x
  ·exact ⟨0,by rw [e]; rfl,fun i hi=>by omega⟩
  ·have hx:x ∈ l:=by
    rcases Qv h with z | z
    ·exact absurd z.symm e
    ·exact z
   obtain ⟨j,h1,h2⟩:=z3d hx;refine ⟨j+1,by simpa using h1,fun i hi=>?_⟩;cases i with
   | zero=>simpa using e
   | succ i=>simpa using h2 i (by omega)
def potK (c:Addr) (a l s:Int):List (Key × V):=[(Sum.inr "cells",V.ref c),(Sum.inr "at",V.int a),(Sum.inr "left",V.int l),(Sum.inr "seed",V.int s)]
theorem z79 (c:Addr) (a l s:Int):valV (potK c a l s) (Sum.inr "cells")=some (.ref c):=rfl
theorem z8f (c:Addr) (a l s:Int):valV (potK c a l s) (Sum.inr "at")=some (.int a):=rfl
theorem z2x (c:Addr) (a l s:Int):valV (potK c a l s) (Sum.inr "left")=some (.int l):=rfl
theorem z8o (c:Addr) (a l s:Int):valV (potK c a l s) (Sum.inr "seed")=some (.int s):=rfl
theorem zg3 (c:Addr) (a l s x:Int):putK (potK c a l s) (Sum.inr "at") (.int x)=potK c x l s:=rfl
def PotA (H:Hp) (p:Addr):Prop:=∃ (c:Addr) (ns:List Int) (a l s:Int),H p=some (.dK (potK c a l s))/\H c=some (.lst (ns.map V.int))/\ns.length<=63/\0<=a/\a<=ns.length/\(0<=l/\l < 10 ^ 320)/\(0<=s/\s < 2 ^ 31)
def zcg (K:Qn):Sp:=fun vs H Q _=>∃ (a:Addr) (ns:List Int),vs=[.ref a]/\SqL K H a (ns.map V.int)/\ns.length<=63/\∀ (p:Addr) (H':Hp),SB [] H H'->H p=none->PotA H' p->Q (.ref p) H'
namespace Lad
def mrg:Lad->Lad->Lad
 | .nil,k=>k
 | .cons e m r,.nil=>.cons e m r
 | .cons e m r,.cons f n s=>if e=f then .cons e (m+n) (mrg r s) else if e.lt f=true then .cons f n (mrg (.cons e m r) s) else .cons e m (mrg r (.cons f n s))
termination_by l k=>l.len+k.len
decreasing_by all_goals (simp only [Lad.len]; omega)
theorem mrg_nil_r (l:Lad):mrg l .nil=l:=by cases l <;> simp [mrg]
theorem mrg_nil_l (l:Lad):mrg .nil l=l:=by rw [mrg]
theorem mrg_cons (e f:Lad) (m n:Int) (r s:Lad):mrg (.cons e m r) (.cons f n s)=if e=f then .cons e (m+n) (mrg r s) else if e.lt f=true then .cons f n (mrg (.cons e m r) s) else .cons e m (mrg r (.cons f n s)):=by rw [mrg]
theorem mrg_mem {l k:Lad}:∀ p ∈ (mrg l k).ps,(∃ q ∈ l.ps,q.1=p.1)\/∃ q ∈ k.ps,q.1=p.1:=by
 fun_induction mrg l k with
 | case1 k=>exact fun p hp=>.inr ⟨p,hp,rfl⟩
 | case2 e m r=>exact fun p hp=>.inl ⟨p,hp,rfl⟩
 | case3 m r e n s ih =>
  intro p hp;rcases Qv hp with h | h
  ·exact .inl ⟨(e,m),mcs ..,by rw [h]⟩
  ·rcases ih p h with ⟨q,hq,z⟩ | ⟨q,hq,z⟩
   ·exact .inl ⟨q,mcm _ hq,z⟩
   ·exact .inr ⟨q,mcm _ hq,z⟩
 | case4 e m r f n s h1 h2 ih =>
  intro p hp;rcases Qv hp with h | h
  ·exact .inr ⟨(f,n),mcs ..,by rw [h]⟩
  ·rcases ih p h with ⟨q,hq,z⟩ | ⟨q,hq,z⟩
   ·exact .inl ⟨q,hq,z⟩
   ·exact .inr ⟨q,mcm _ hq,z⟩
 | case5 e m r f n s h1 h2 ih =>
  intro p hp;rcases Qv hp with h | h
  ·exact .inl ⟨(e,m),mcs ..,by rw [h]⟩
  ·rcases ih p h with ⟨q,hq,z⟩ | ⟨q,hq,z⟩
   ·exact .inl ⟨q,mcm _ hq,z⟩
   ·exact .inr ⟨q,hq,z⟩
theorem mrg_ok {B C:Int} {l k:Lad}:l.Ok B->k.Ok C->1<=B->1<=C->(mrg l k).Ok (B+C):=by
 fun_induction mrg l k with
 | case1 k=>exact fun _ h b c=>h.mono (by omega)
 | case2 e m r=>exact fun h _ b c=>h.mono (by omega)
 | case3 m r e n s ih =>
  intro h g b c;obtain ⟨h1,h2,h3,h4,h5⟩:=h;obtain ⟨g1,g2,g3,g4,g5⟩:=g;refine ⟨h1.mono (by omega),by omega,by omega,ih h4 g4 b c,fun p hp=>?_⟩;rcases mrg_mem p hp with ⟨q,hq,z⟩ | ⟨q,hq,z⟩
  ·rw [<- z]; exact h5 q hq
  ·rw [<- z]; exact g5 q hq
 | case4 e m r f n s n1 n2 ih =>
  intro h g b c;obtain ⟨g1,g2,g3,g4,g5⟩:=g;refine ⟨g1.mono (by omega),by omega,by omega,ih h g4 b c,fun p hp=>?_⟩;rcases mrg_mem p hp with ⟨q,hq,z⟩ | ⟨q,hq,z⟩
  ·rw [<- z];rcases Qv hq with hq | hq
   ·rw [hq]; exact n2
   ·exact lt_trans _ _ _ (h.2.2.2.2 q hq) n2
  ·rw [<- z]; exact g5 q hq
 | case5 e m r f n s n1 n2 ih =>
  intro h g b c;obtain ⟨h1,h2,h3,h4,h5⟩:=h;have hlt:f.lt e=true:=lt_tri _ _ n1 (by simpa using n2);refine ⟨h1.mono (by omega),by omega,by omega,ih h4 g b c,fun p hp=>?_⟩;rcases mrg_mem p hp with ⟨q,hq,z⟩ | ⟨q,hq,z⟩
  ·rw [<- z]; exact h5 q hq
  ·rw [<- z];rcases Qv hq with hq | hq
   ·rw [hq]; exact hlt
   ·exact lt_trans _ _ _ (g.2.2.2.2 q hq) hlt
end Lad
def zhy:List V->Hp->VK->Prop:=fun xs H Q=>∃ i j k,xs=[.int i,.int j,.int k]/\∀ m,Q (.int m) H
theorem zae {X:Cx} (hc:X.calm=true):CallR X (.builtin "max") zhy:=by
 intro pins s σ H xs us Q I r h;obtain ⟨i,j,k,rfl,q⟩:=h;cases r with
 | cons r1 r =>
 cases r with
 | cons r2 r =>
 cases r with
 | cons r3 r =>
 cases r;obtain ⟨t1,rfl⟩:=r1;obtain ⟨t2,rfl⟩:=r2;obtain ⟨t3,rfl⟩:=r3;refine max_three_ints (I.ok.hd hc) fun h' tk kk=>?_;by_cases h1:j > i
 ·by_cases h2:k > j
  ·simp only [h1,h2,if_true];exact ⟨.int k,H,I.kept kk,⟨_,rfl⟩,q _⟩
  ·simp only [h1,h2,if_true,if_false];exact ⟨.int j,H,I.kept kk,⟨_,rfl⟩,q _⟩
 ·by_cases h2:k > i
  ·simp only [h1,h2,if_true,if_false];exact ⟨.int k,H,I.kept kk,⟨_,rfl⟩,q _⟩
  ·simp only [h1,h2,if_false];exact ⟨.int i,H,I.kept kk,⟨_,rfl⟩,q _⟩
def Lad.wid:Lad->Nat
 | .nil=>0
 | .cons e m r=>max (1+r.len) (max e.wid r.wid)
theorem Lad.wid_mem:∀ (l:Lad) (p:Lad × Int),p ∈ l.ps->p.1.wid<=l.wid
 | .nil,p,h=>nomatch h
 | .cons e m r,p,h=>by
  show p.1.wid<=max (1+r.len) (max e.wid r.wid);rcases Qv h with h | h
  ·rw [h]; show e.wid<=_; omega
  ·have:=Lad.wid_mem r p h; omega
theorem Lad.wid_len:∀ l:Lad,l.ps.length<=l.wid
 | .nil=>Yc _
 | .cons e m r=>by
  rw [Lad.ps_length];show 1+r.len<=max (1+r.len) (max e.wid r.wid);omega
theorem Lad.wid_le {n:Nat}:∀ {ps:List (Lad × Int)},ps.length<=n->(∀ p ∈ ps,p.1.wid<=n)->(Lad.ofPs ps).wid<=n
 | [],_,_=>Nat.zero_le _
 | (e,m)::r,h,g=>by
  have h':r.length+1<=n:=h;have ih:=Lad.wid_le (ps:=r) (by omega) fun p hp=>g p (mcm _ hp);have h1:=g (e,m) (mcs ..);have h2:(Lad.ofPs r).len=r.length:=by rw [<- Lad.ps_length,Lad.ps_ofPs]
  show max (1+(Lad.ofPs r).len) (max e.wid (Lad.ofPs r).wid)<=n;have h1':e.wid<=n:=h1;omega
theorem Lad.wid_parts:∀ l:Lad,l.wid<=l.parts
 | .nil=>Yc _
 | .cons e m r=>by
  have h1:=Lad.wid_parts e;have h2:=Lad.wid_parts r;have h3:=r.len_parts;have h4:=Lad.ps_length r;show max (1+r.len) (max e.wid r.wid)<=1+e.parts+r.parts;omega
theorem Lad.deep_le {n:Nat}:∀ {ps:List (Lad × Int)},(∀ p ∈ ps,p.1.deep < n)->(Lad.ofPs ps).deep<=n
 | [],_=>Nat.zero_le _
 | (e,m)::r,g=>by
  have ih:=Lad.deep_le (ps:=r) fun p hp=>g p (mcm _ hp);have h1:e.deep < n:=g (e,m) (mcs ..);show max (1+e.deep) (Lad.ofPs r).deep<=n;omega
theorem Lad.parts_snoc:∀ (ps:List (Lad × Int)) (p:Lad × Int),(Lad.ofPs (ps++[p])).parts=(Lad.ofPs ps).parts+(1+p.1.parts)
 | [],(e,m)=>by show 1+e.parts+0=0+(1+e.parts); omega
 | (f,n)::r,p=>by
  have ih:=Lad.parts_snoc r p;show 1+f.parts+(Lad.ofPs (r++[p])).parts=1+f.parts+(Lad.ofPs r).parts+(1+p.1.parts);omega
theorem Lad.deep_snoc:∀ (ps:List (Lad × Int)) (p:Lad × Int),(Lad.ofPs (ps++[p])).deep=max (Lad.ofPs ps).deep (1+p.1.deep)
 | [],(e,m)=>by show max (1+e.deep) 0=max 0 (1+e.deep); omega
 | (f,n)::r,p=>by
  have ih:=Lad.deep_snoc r p;show max (1+f.deep) (Lad.ofPs (r++[p])).deep=max (max (1+f.deep) (Lad.ofPs r).deep) (1+p.1.deep);omega
theorem z2l {i:Nat} {x:V} {σ:L2.St} {H:Hp} {Q:L2.St->Hp->Prop} (h:Q (σ.set i (some x)) H):gName i x σ H Q:=h
namespace Lad
variable {a b c d l k w g r e:Lad} {m n:Int} {B:Int} {qs:List (Lad × Int)} {p:Lad × Int}
def low (l:Lad):Lad:=match l.ps.getLast? with
 | none=>.nil
 | some p=>if p.2=1 then ofPs l.ps.dropLast else ofPs (l.ps.dropLast++[(p.1,p.2-1)])
def lst (l:Lad):Lad:=match l.ps.getLast? with
 | none=>.nil
 | some p=>p.1
theorem snoc_of (h:l ≠ .nil):∃ qs p,l.ps=qs++[p]:=by
 rcases List.eq_nil_or_concat l.ps with e | ⟨qs,p,e⟩
 ·exact absurd (by rw [<- ofPs_ps l,e]; rfl) h
 ·exact ⟨qs,p,by rw [e,List.concat_eq_append]⟩
theorem low_of (e:l.ps=qs++[p]):low l=if p.2=1 then ofPs qs else ofPs (qs++[(p.1,p.2-1)]):=by
 unfold low;rw [e];simp
theorem lst_of (e:l.ps=qs++[p]):lst l=p.1:=by
 unfold lst;rw [e];simp
theorem low_ok (h:l.Ok B):(low l).Ok B:=by
 by_cases hl:l=.nil
 ·rw [hl]; exact trivial
 obtain ⟨qs,p,e⟩:=snoc_of hl;have h1:=ok_iff.mp h;rw [e] at h1;obtain ⟨h2,h3⟩:=h1;rw [low_of e];have hp:=h2 p (by simp);rw [List.pairwise_append] at h3
 split
 ·rw [ok_ps];exact ⟨fun q hq=>h2 q (mal _ hq),h3.1⟩
 ·rw [ok_ps];refine ⟨fun q hq=>?_,?_⟩
  ·rcases Qw hq with hq | hq
   ·exact h2 q (mal _ hq)
   ·rw [Qy hq];exact ⟨hp.1,by show 1<=p.2-1; omega,by show p.2-1 < B; omega⟩
  ·rw [List.pairwise_append];refine ⟨h3.1,List.pairwise_singleton ..,fun x hx y hy=>?_⟩;rw [Qy hy];exact h3.2.2 x hx p (by simp)
theorem low_S (h:l ≠ .nil) (x:Lad):S (low l) x=S l x-if lst l=x then 1 else 0:=by
 obtain ⟨qs,p,e⟩:=snoc_of h;rw [low_of e,lst_of e];show sumAt (if p.2=1 then ofPs qs else ofPs (qs++[(p.1,p.2-1)])).ps x=sumAt l.ps x-_;rw [e,sumAt_append,show ([p]:List (Lad × Int))=[(p.1,p.2)] from rfl,sumAt_cons,sumAt_nil]
 split
 ·rw [ps_ofPs]
  split <;> omega
 ·rw [ps_ofPs,sumAt_append,sumAt_cons,sumAt_nil]
  split <;> omega
theorem low_parts (l:Lad):(low l).parts<=l.parts:=by
 by_cases hl:l=.nil
 ·rw [hl]; exact Yc _
 obtain ⟨qs,p,e⟩:=snoc_of hl;have h:l.parts=tot l.ps:=by rw [<- parts_ofPs,ofPs_ps]
 rw [low_of e,h,e,tot_append]
 split
 ·rw [parts_ofPs]; omega
 ·rw [parts_ofPs,tot_append];exact Yc _
theorem low_deep {n:Nat} (h:l.deep<=n):(low l).deep<=n:=by
 by_cases hl:l=.nil
 ·rw [hl]; exact Nat.zero_le _
 obtain ⟨qs,p,e⟩:=snoc_of hl;rw [low_of e];have h1:∀ q ∈ qs++[p],q.1.deep < n:=fun q hq=>Nat.lt_of_lt_of_le (mem_deep l q (by rw [e]; exact hq)) h
 split
 ·exact deep_ofPs fun q hq=>h1 q (mal _ hq)
 ·refine deep_ofPs fun q hq=>?_;rcases Qw hq with hq | hq
  ·exact h1 q (mal _ hq)
  ·rw [Qy hq];exact h1 p (by simp)
theorem R.low (h:R l):R (low l):=by
 obtain ⟨B,hB,h⟩:=h;exact ⟨B,hB,low_ok h⟩
theorem R.lst (h:R l):R (lst l):=by
 by_cases hl:l=.nil
 ·rw [hl]; exact R.nil
 obtain ⟨B,hB,h⟩:=h;obtain ⟨qs,p,e⟩:=snoc_of hl;rw [lst_of e];exact ⟨B,hB,((ok_iff.mp h).1 p (by rw [e]; simp)).1⟩
theorem R.pow (h:R e):R (.cons e 1 .nil):=by
 obtain ⟨B,hB,h⟩:=h;exact ⟨B+1,by omega,pow_ok (h.mono (by omega)) (by omega)⟩
theorem S_below (h:R l) {x:Lad} (hx:x.lt (lst l)=true):S l x=0:=by
 by_cases hl:l=.nil
 ·rw [hl]; exact sumAt_nil x
 obtain ⟨B,hB,h⟩:=h;obtain ⟨qs,p,e⟩:=snoc_of hl;rw [lst_of e] at hx;refine S_none fun q hq z=>?_;have h2:=(ok_iff.mp h).2;rw [e,List.pairwise_append] at h2;rw [e] at hq;rcases Qw hq with hq | hq
 ·have:=h2.2.2 q hq p (by simp);rw [z] at this;rw [lt_asymm this] at hx;cases hx
 ·rw [Qy hq] at z;rw [z,lt_irrefl] at hx;cases hx
theorem S_lst (h:R l) (hl:l ≠ .nil):1<=S l (lst l):=by
 obtain ⟨B,hB,h⟩:=h;obtain ⟨qs,p,e⟩:=snoc_of hl;have hp:p ∈ l.ps:=by rw [e]; simp
 rw [lst_of e,S_mem h hp];exact ((ok_iff.mp h).1 p hp).2.1
theorem cov_pow (e x:Lad):cov (.cons e 1 .nil) x=!x.lt e:=by
 show ([(e,(1:Int))].all fun p=>!x.lt p.1)=_;simp
theorem low_add (h:R l) (hl:l ≠ .nil):bhd (low l) (.cons (lst l) 1 .nil)=l:=by
 have rp:=h.lst.pow;refine (h.low.bhd rp).ext h fun x=>?_;obtain ⟨B,hB,hp⟩:=rp;rw [S_bhd hp,cov_pow,S_uno,low_S hl];cases hx:x.lt (lst l) with
 | true =>
  have ne:¬ lst l=x:=fun z=>by rw [z,lt_irrefl] at hx; cases hx
  rw [S_below h hx,if_neg ne];simp
 | false =>
  simp only [Bool.not_false,if_true]
  split <;> omega
def ron (a b:Lad):Lad:=if b.lt a=true then .nil else rst a b
theorem R.ron (ra:R a) (rb:R b):R (ron a b):=by
 unfold Lad.ron
 split
 ·exact R.nil
 ·rename_i h;obtain ⟨A,hA,ra⟩:=ra;obtain ⟨B,hB,rb⟩:=rb;exact ⟨B,hB,rst_ok ra rb (by simpa using h)⟩
theorem ron_ok (ra:R a) (h:b.Ok B) (hB:1<=B):(ron a b).Ok B:=by
 unfold ron
 split
 ·exact trivial
 ·rename_i h2;obtain ⟨A,hA,ra⟩:=ra;exact rst_ok ra h (by simpa using h2)
theorem ron_parts (a b:Lad):(ron a b).parts<=b.parts:=by
 unfold ron
 split
 ·exact Nat.zero_le _
 ·exact rst_parts a b
theorem ron_deep (a b:Lad):(ron a b).deep<=b.deep:=by
 unfold ron
 split
 ·exact Nat.zero_le _
 ·exact rst_deep a b
theorem ron_ge (ra:R a) (rb:R b):Le b (bhd a (ron a b)):=by
 unfold ron
 split
 ·rename_i h;rw [bhd_nil];exact Le.of_lt h
 ·rename_i h;obtain ⟨A,hA,ra⟩:=ra;obtain ⟨B,hB,rb⟩:=rb;rw [bhd_rst ra rb (by simpa using h)];exact Le.refl
theorem ron_lt (ra:R a) (rb:R b) (rc:R c) (hc:c ≠ .nil) (h:b.lt (bhd a c)=true):(ron a b).lt c=true:=by
 have rr:=ra.ron rb;unfold ron at rr ⊢
 split
 ·exact nil_le c hc
 ·rename_i h2;rw [if_neg h2] at rr;have e:bhd a (rst a b)=b:=by
   obtain ⟨A,hA,ra⟩:=ra;obtain ⟨B,hB,rb⟩:=rb;exact bhd_rst ra rb (by simpa using h2)
  cases hx:(rst a b).lt c with
  | true=>rfl
  | false =>
   exfalso
   rcases (show Le c (rst a b) from hx).cases with z | z
   ·rw [z,e,lt_irrefl] at h;cases h
   ·have:=bhd_lt ra rc rr z;rw [e] at this;rw [lt_asymm this] at h;cases h
theorem Le.bhd2 (ra:R a) (rb:R b) (rc:R c) (h:Le b c):Le (bhd a b) (bhd a c):=by
 rcases h.cases with z | z
 ·rw [z]; exact Le.refl
 ·exact Le.of_lt (bhd_lt ra rb rc z)
theorem below_pow (rd:R d) (re:R e) (h:d.lt (.cons e 1 .nil)=true):∀ p ∈ d.ps,p.1.lt e=true:=by
 intro p hp;obtain ⟨x,hx,hy⟩:=(rd.lt_iff re.pow).mp h;obtain ⟨D,hD,rd⟩:=rd;rw [S_uno] at hx;have h0:=S_nonneg rd x;have hp1:=S_mem rd hp;have hp2:=((ok_iff.mp rd).1 p hp).2.1
 split at hx
 ·rename_i ex;subst ex;cases hc:p.1.lt e with
  | true=>rfl
  | false =>
   exfalso
   by_cases z:p.1=e
   ·rw [z] at hp1; omega
   ·have:=hy p.1 (lt_tri _ _ z hc);rw [S_uno,if_neg (fun w=>z w.symm)] at this;omega
 ·omega
theorem cov_below (h:∀ p ∈ d.ps,p.1.lt e=true) {x:Lad} (hx:x.lt e=false):cov d x=true:=by
 unfold cov;rw [List.all_eq_true];intro p hp;cases hc:x.lt p.1 with
 | false=>rfl
 | true=>rw [lt_trans _ _ _ hc (h p hp)] at hx; cases hx
def gone (w l g:Lad):Lad:=bhd (low l) (ron (low w) g)
theorem R.gone (rw':R w) (rl:R l) (rg:R g):R (gone w l g):=rl.low.bhd (rw'.low.ron rg)
theorem rest_low (rw':R w) (hw:w ≠ .nil) (rg:R g) (h:g.lt w=true):(ron (low w) g).lt (.cons (lst w) 1 .nil)=true :=
 ron_lt rw'.low rg rw'.lst.pow (by simp) (by rw [low_add rw' hw]; exact h)
theorem gone_lt (rw':R w) (hw:w ≠ .nil) (rl:R l) (hl:l ≠ .nil) (rg:R g) (e:lst w=lst l) (h:g.lt w=true):(gone w l g).lt l=true:=by
 have h1:=bhd_lt rl.low (rw'.low.ron rg) rw'.lst.pow (rest_low rw' hw rg h);rw [e,low_add rl hl] at h1;exact h1
theorem gone_ge {o:Lad} (ro:R o) (rl:R l) (hl:l ≠ .nil) (rg:R g) (rr:R r) (hw:bth o l ≠ .nil) (e:lst (bth o l)=lst l) (h:g.lt (bth o l)=true) (hr:Le (gone (bth o l) l g) r):Le g (bth o r):=by
 have rw':=ro.bth rl;have rd:=rw'.low.ron rg;have h1:=below_pow rd rw'.lst (rest_low rw' hw rg h);refine Le.trans ?_ (Le.bth ro ro (rw'.gone rl rg) rr Le.refl hr);have eq:bth o (gone (bth o l) l g)=bhd (low (bth o l)) (ron (low (bth o l)) g):=by
  refine (ro.bth (rw'.gone rl rg)).ext (rw'.low.bhd rd) fun x=>?_;have hd:=rd;obtain ⟨D,hD,hd⟩:=hd;show S (bth o (bhd (low l) (ron (low (bth o l)) g))) x=_;rw [S_bth,S_bhd hd,S_bhd hd,low_S hl,low_S hw,S_bth,e];cases hx:x.lt (lst l) with
  | true =>
   have ne:¬ lst l=x:=fun z=>by rw [z,lt_irrefl] at hx; cases hx
   have z1:=S_below rl hx;have z2:=S_below rw' (by rw [e]; exact hx);rw [S_bth] at z2;rw [if_neg ne];have z3:S o x=0:=by omega
   rw [z1,z3]
   split <;> omega
  | false =>
   have hcv:=cov_below h1 (x:=x) (by rw [e]; exact hx);simp only [hcv,if_true];omega
 rw [eq];exact ron_ge rw'.low rg
theorem many_lt {m':Int} {r':Lad} (h:m < m'):Lad.lt (.cons e m r) (.cons e m' r')=true:=by
 cases hc:Lad.lt (.cons e m r) (.cons e m' r') with
 | true=>rfl
 | false =>
  rcases not_lt_cons hc with ⟨_,h1,_⟩ | ⟨_,h1⟩ | ⟨h1,_⟩
  ·omega
  ·omega
  ·exact absurd rfl h1
def hde:Lad->Lad
 | .nil=>.nil
 | .cons e _ _=>e
def frt:Lad->Int
 | .nil=>0
 | .cons _ m r=>if r=.nil then m-1 else m
theorem R.hde (h:R l):R (hde l):=by
 cases l with
 | nil=>exact R.nil
 | cons e m r=>exact h.exp
theorem hde_lt (rg:R g) (re:R e) (he:e ≠ .nil) (h:g.lt (.cons e 1 .nil)=true):(hde g).lt e=true:=by
 cases g with
 | nil=>exact nil_le e he
 | cons f m r=>exact below_pow rg re h (f,m) (mcs ..)
theorem bhd_ne (hb:b ≠ .nil):bhd a b ≠ .nil:=by
 cases b with
 | nil=>exact absurd rfl hb
 | cons e m r =>
  rw [bhd_cons];intro z;have:=congrArg Lad.ps z;rw [ps_ofPs] at this;exact absurd this (by simp [Lad.ps])
theorem flat_reach {o h':Lad} (ro:R o) (rg:R g) (rh:R h') (h:Le (ron o g) h'):Le g (lad false o h') :=
 (ron_ge ro rg).trans (Le.bhd2 ro (ro.ron rg) rh h)
theorem wide_reach {e0 r0 h':Lad} {m0:Int} (ro:R (.cons e0 m0 r0)) (rg:R g) (rh:R h') (h:Le (ron e0 (hde g)) h') (hn:frt g<=n) (h0:0<=n):Le g (tms (lad true (.cons e0 m0 r0) h') (1+n)):=by
 have re:=ro.exp;have rf:=re.bhd rh;have h1:Le (hde g) (bhd e0 h'):=(ron_ge re rg.hde).trans (Le.bhd2 re (re.ron rg.hde) rh h);have m0p:1<=m0:=by
  obtain ⟨B,hB,hb⟩:=ro;exact hb.2.1
 have h2:Le (.cons (bhd e0 h') 1 .nil) (lad true (.cons e0 m0 r0) h'):=by
  cases h' with
  | nil =>
   rw [bhd_nil];show Le _ (.cons e0 m0 r0);by_cases z:1 < m0
   ·exact Le.of_lt (many_lt z)
   ·have:m0=1:=by omega
    subst this;cases r0 with
    | nil=>exact Le.refl
    | cons e1 m1 r1 =>
     show Lad.lt (.cons e0 1 (.cons e1 m1 r1)) (.cons e0 1 .nil)=false;cases hc:Lad.lt (.cons e0 1 (.cons e1 m1 r1)) (.cons e0 1 .nil) with
     | false=>rfl
     | true =>
      rw [lt_cons] at hc;simp [lt_nil_r] at hc
  | cons e1 m1 r1=>exact Le.refl
 refine Le.trans ?_ (Le.tms rf.pow (ro.lad rh) (by omega) h2);rw [tms_one (by omega)];cases g with
 | nil=>exact Le.nil
 | cons e m r =>
  rcases h1.cases with z | z
  ·have z':e=bhd e0 h':=z;rw [<- z'];simp only [frt] at hn
   split at hn
   ·rename_i er;subst er;by_cases q:m < 1+n
    ·exact Le.of_lt (many_lt q)
    ·have:m=1+n:=by omega
     rw [this]; exact Le.refl
   ·exact Le.of_lt (many_lt (by omega))
  ·exact Le.of_lt (top_lt z)
theorem bare_reach (rl:R l) (rk:R k) (rg:R g) (h:g.lt (l.abv k)=true) (hn:0<=n) (hg:l.lt g=true->∃ e m r,k=.cons e m r/\1+S g e<=n):Le g (l.bth (k.tms n)):=by
 cases hc:l.lt g with
 | false=>exact (show Le g l from hc).trans (le_bth rl (rk.tms hn))
 | true =>
  obtain ⟨e,m,r,ek,h1⟩:=hg hc;refine above_least rl rk rg h ?_;rw [ek];exact h1
theorem each_ne (rl:R l) (rg:R g) (h:g.lt (l.abv k)=true) (h2:l.lt g=true):k ≠ .nil:=by
 rintro rfl
 have h3:=above_least rl R.nil rg h (n:=0) (by show (0:Int)<=0; omega);rw [tms_zero] at h3;have e:bth l .nil=l:=by
  obtain ⟨B,hB,hl⟩:=rl;exact bth_nil hl
 rw [e] at h3;have h3':l.lt g=false:=h3;rw [h3'] at h2;cases h2
end Lad
namespace Lad
variable {a b c l k o h h':Lad} {m n:Int} {w:Bool}
theorem Le.anti (h:Le a b) (g:Le b a):a=b:=by
 rcases h.cases with e | e
 ·exact e
 ·have g':a.lt b=false:=g;rw [g'] at e;cases e
theorem lst_le (r:R l) {x:Lad} (h:1<=S l x):Le (lst l) x:=by
 show x.lt (lst l)=false;cases hc:x.lt (lst l) with
 | false=>rfl
 | true=>have:=S_below r hc; omega
theorem lad_nil (ho:o ≠ .nil):lad w o .nil=o:=by
 cases w with
 | true =>
  cases o with
  | nil=>exact absurd rfl ho
  | cons e m r=>rfl
 | false=>exact bhd_nil o
theorem tms_by_one (r:R l):tms l 1=l:=by
 refine (r.tms (by decide)).ext r fun x=>?_;rw [S_tms]; omega
theorem wide_less {e0 r0:Lad} {m0:Int} (ro:R (.cons e0 m0 r0)) (rh:R h) (rh':R h') (hl:h'.lt h=true) (hn:0<=n):(tms (lad true (.cons e0 m0 r0) h') (1+n)).lt (lad true (.cons e0 m0 r0) h)=true:=by
 have hne:h ≠ .nil:=fun z=>by rw [z,lt_nil_r] at hl; cases hl
 have e1:lad true (.cons e0 m0 r0) h=.cons (bhd e0 h) 1 .nil:=spd_cons hne;rw [e1];cases h' with
 | nil =>
  rw [lad_nil (by simp)];unfold tms;rw [if_neg (by omega)];exact top_lt (exp_grows ro.exp rh hne)
 | cons f q s =>
  rw [show lad true (.cons e0 m0 r0) (.cons f q s)=.cons (bhd e0 (.cons f q s)) 1 .nil from rfl,tms_one (by omega)];exact top_lt (bhd_lt ro.exp rh' rh hl)
end Lad
namespace Gr
variable {b:Bk} {ρ:Str->Lad} {ns:List Str} {C F n:Int} {g X fr:Gr} {p:Tr × Int}
structure Goods (b:Bk) (ρ:Str->Lad) (ns:List Str):Prop where
 rt:∀ n ∈ ns,Lad.R (ρ n)/\ρ n ≠ .nil
 nm:∀ n ∈ ns,∀ kd,b.get n=some kd->∀ r ∈ kd.rs,RuOk r/\Named ns r.1/\Named ns r.2
 own:∀ n ∈ ns,∀ kd,b.get n=some kd->ρ n=Lad.maxL Lad.uno (kd.rs.map (clm b ρ))
theorem wo_S (h:g.Ok C) (hp:p ∈ g.ps) (X:Gr) (x:Lad):Lad.S (rk b ρ (tgt (wo g p.1 1) X)) x=Lad.S (rk b ρ g) x-Lad.S (rkt b ρ p.1) x+Lad.S (rk b ρ X) x:=by
 rw [S_rk,S_rk,S_rk X];have e:=z2z (fun t=>Lad.S (rkt b ρ t) x) _ (tgt (wo g p.1 1) X).ps (g.ps++((p.1,-1)::X.ps)) (Yc _) (fun y=>?_)
 ·rw [e,z2g];show wsum _ g.ps+(Lad.S (rkt b ρ p.1) x*-1+wsum _ X.ps)=_;omega
 ·show S (tgt (wo g p.1 1) X) y=_;rw [S_tgt,S_wo h (by decide),z0g,z0f];show _=S g y+((if p.1=y then -1 else 0)+S X y);have h1:=S_mem h hp;have h2:=(ok_mem h hp).2.2.1;by_cases e:y=p.1
  ·rw [if_pos e,if_pos e.symm,e,h1]
   split <;> omega
  ·rw [if_neg e,if_neg (fun z=>e z.symm)];omega
theorem wo_S' (h:g.Ok C) (hp:p ∈ g.ps) (x:Lad):Lad.S (rk b ρ (wo g p.1 1)) x=Lad.S (rk b ρ g) x-Lad.S (rkt b ρ p.1) x:=by
 have h1:=wo_S (b:=b) (ρ:=ρ) h hp .nil x;rw [tgt_nil (wo_ok h (by decide))] at h1;rw [h1,rk_nil];show _-_+Lad.sumAt [] x=_;rw [Lad.sumAt_nil]; omega
theorem rkt_R (G:Goods b ρ ns) {t:Tr} (hk:t.1 ∈ ns) (ho:t.2.Ok C) (hn:Named ns t.2):Lad.R (rkt b ρ t) :=
 (G.rt _ hk).1.lad (rk_R ho (RN.named G.rt hn))
theorem G_R (G:Goods b ρ ns) (ho:g.Ok C) (hn:Named ns g):Lad.R (rk b ρ g):=rk_R ho (RN.named G.rt hn)
theorem rk_take (G:Goods b ρ ns) (h:g.Ok C) (hn:Named ns g) (hp:p ∈ g.ps):rk b ρ g=(rk b ρ (wo g p.1 1)).bth (rkt b ρ p.1):=by
 obtain ⟨h1,h2⟩:=named_iff.mp hn p hp;refine (G_R G h hn).ext ((G_R G (wo_ok h (by decide)) (named_wo hn _ _)).bth (rkt_R G h1 (ok_mem h hp).2.1 h2)) fun x=>?_;rw [Lad.S_bth,wo_S' h hp]; omega
theorem rk_swap (G:Goods b ρ ns) (h:g.Ok C) (hn:Named ns g) (hX:X.Ok F) (hF:1<=F) (hXn:Named ns X) (hp:p ∈ g.ps):rk b ρ (tgt (wo g p.1 1) X)=(rk b ρ (wo g p.1 1)).bth (rk b ρ X):=by
 have c2:=C_pos h hp;refine (G_R G (tgt_ok2 (wo_ok h (by decide)) hX (by omega) hF) (named_tgt (named_wo hn _ _) hXn)).ext ((G_R G (wo_ok h (by decide)) (named_wo hn _ _)).bth (G_R G hX hXn)) fun x=>?_;rw [Lad.S_bth,wo_S h hp,wo_S' h hp]
theorem rk_one (G:Goods b ρ ns) {t:Tr} {m:Int} (h1:z03 t.1) (h2:t.2.Ok C) (hk:t.1 ∈ ns) (hn:Named ns t.2) (hm:1<=m) (hC:m < C):rk b ρ (one t m)=Lad.tms (rkt b ρ t) m:=by
 have rt:=rkt_R G hk h2 hn;have e:rk b ρ (one t m)=(Lad.tms (rkt b ρ t) m).bth (rk b ρ .nil):=rk_cons (C:=C) (one_ok h1 h2 hm hC) (RN.named G.rt (named_one hk hn m));rw [e,rk_nil];obtain ⟨B,hB,hb⟩:=rt.tms (m:=m) (by omega);exact Lad.bth_nil hb
def cme (b:Bk) (ρ:Str->Lad) (n:Int) (fr:Gr) (r:Pl) (p:Tr × Int):Lad:=if r=[] then rk b ρ fr else Lad.tms (rkt b ρ (chg b n fr r p)) (1+b.far p.1.1 n)
theorem chg_facts (hn:0<=n) (hfr:fr.Ok F) (hF:1<=F) (hfn:Named ns fr) (h:g.Ok C) (hg:Named ns g) (hp:p ∈ g.ps) {r:Pl} {k:Str} (hk:bareAt p.1.2 r=some k) :
  z03 (chg b n fr r p).1/\(chg b n fr r p).2.Ok (C+F+n+2)/\(chg b n fr r p).1 ∈ ns/\Named ns (chg b n fr r p).2:=by
 obtain ⟨h1,h2⟩:=named_iff.mp hg p hp;obtain ⟨o1,o2,_⟩:=ok_mem h hp;exact ⟨o1,stk_ok hn hF hfr o2 hk,h1,stk_named hfn hk h2⟩
theorem rk_stk (G:Goods b ρ ns) (hn:0<=n) (hfr:fr.Ok F) (hF:1<=F) (hfn:Named ns fr) (h:g.Ok C) (hg:Named ns g) {i:Nat} {r:Pl} {k:Str} (ep:g.ps[i]?=some p) (hk:bareAt g (i::r)=some k) :
  rk b ρ (stk b n fr (i::r) g).1=(rk b ρ (wo g p.1 1)).bth (cme b ρ n fr r p):=by
 have hp:=Qu ep;unfold cme;by_cases hr:r=[]
 ·subst hr;rw [if_pos rfl,stk_one ep];exact rk_swap G h hg hfr hF hfn hp
 ·rw [if_neg hr,stk_more ep hr];obtain ⟨p',e',hb⟩:=bare_more hr hk;rw [ep] at e';cases e';obtain ⟨c1,c2,c3,c4⟩:=chg_facts (b:=b) hn hfr hF hfn h hg hp hb;have hf:=b.far_le p.1.1 hn;have c2p:=C_pos h hp;have ho:=one_ok (m:=1+b.far p.1.1 n) c1 c2 (by omega) (by omega);show rk b ρ (tgt (wo g p.1 1) (one (chg b n fr r p) (1+b.far p.1.1 n)))=_;rw [rk_swap G h hg ho (by omega) (named_one c3 c4 _) hp,rk_one G c1 c2 c3 c4 (by omega) (by omega)]
theorem clm_le (G:Goods b ρ ns) {k:Str} {kd:Kd} (hk:k ∈ ns) (e:b.get k=some kd) {r:Ru} (hr:r ∈ noR::kd.rs):Lad.Le (clm b ρ r) (ρ k):=by
 rw [G.own k hk kd e];refine Lad.maxL_ge _ _ _ ?_;rcases Qv hr with z | z
 ·rw [z,show clm b ρ noR=Lad.uno from z3e b ρ]; exact mcs ..
 ·exact mcm _ (List.mem_map.mpr ⟨r,z,rfl⟩)
theorem noR_ok:RuOk noR/\Named ns noR.1/\Named ns noR.2:=by
 refine ⟨⟨trivial,trivial,by decide⟩,?_,?_⟩
 ·intro x hx; exact nomatch hx
 ·intro x hx; exact nomatch hx
theorem ru_facts (G:Goods b ρ ns) {k:Str} {kd:Kd} (hk:k ∈ ns) (e:b.get k=some kd) {r:Ru} (hr:r ∈ noR::kd.rs):RuOk r/\Named ns r.1/\Named ns r.2:=by
 rcases Qv hr with z | z
 ·rw [z]; exact noR_ok
 ·exact G.nm k hk kd e r z
theorem grw_facts (G:Goods b ρ ns) {k:Str} {kd:Kd} (hk:k ∈ ns) (e:b.get k=some kd) {r:Ru} (hr:r ∈ noR::kd.rs) (hn:0<=n) :
  (grw r n).Ok (1000000001*n+2000000002)/\Named ns (grw r n)/\rk b ρ (grw r n)=(rk b ρ r.1).bth (Lad.tms (rk b ρ r.2) n)/\Lad.R (rk b ρ r.1)/\Lad.R (rk b ρ r.2):=by
 obtain ⟨r1,r2,r3⟩:=ru_facts G hk e hr;refine ⟨grw_ok r1 hn,named_tgt r2 (named_tms r3 n),rk_grw r1 hn G.rt r2 r3,G_R G r1.1 r2,G_R G r1.2.1 r3⟩
theorem rkt_bare (G:Goods b ρ ns) {k:Str} (hk:k ∈ ns):rkt b ρ (k,.nil)=ρ k:=by
 show lad (b.wide k) (ρ k) (rk b ρ .nil)=ρ k;rw [rk_nil];exact Lad.lad_nil (G.rt k hk).2
theorem far_w2 {k:Str} (n:Int):b.far k n=if b.wide k=true then n else 0:=by
 unfold Bk.far Bk.wide;cases b.get k with
 | none=>rfl
 | some kd=>rfl
theorem stk_less (G:Goods b ρ ns) {k:Str} {kd:Kd} {r:Ru} (e:b.get k=some kd) (hr:r ∈ noR::kd.rs) (hn:0<=n):∀ {pl:Pl} {g:Gr},g.Ok C->Named ns g->bareAt g pl=some k->(rk b ρ (stk b n (grw r n) pl g).1).lt (rk b ρ g)=true
 | [],g,_,_,h=>nomatch h
 | i::pl,g,ho,hg,hb=>by
  have hex:∃ p,g.ps[i]?=some p:=by
   cases hx:g.ps[i]? with
   | none=>rw [bareAt,hx] at hb; cases hb
   | some p=>exact ⟨p,rfl⟩
  obtain ⟨p,ep⟩:=hex;have hp:=Qu ep;obtain ⟨n1,n2⟩:=named_iff.mp hg p hp;obtain ⟨o1,o2,_⟩:=ok_mem ho hp;have hk:k ∈ ns:=bare_named hg hb;obtain ⟨f1,f2,f3,f4,f5⟩:=grw_facts (n:=n) G hk e hr hn;have f6:(1:Int)<=1000000001*n+2000000002:=by omega
  rw [rk_stk G hn f1 f6 f2 ho hg ep hb,rk_take G ho hg hp];have rW:=G_R G (wo_ok (t:=p.1) (m:=1) ho (by decide)) (named_wo hg p.1 1);have rt:=rkt_R G n1 o2 n2;unfold cme;by_cases hpl:pl=[]
  ·subst hpl;rw [if_pos rfl];obtain ⟨p',e',z⟩:=bare_one hb;rw [ep] at e';cases e';refine Lad.bth_lt rW (G_R G f1 f2) rt ?_;rw [z,rkt_bare G hk,f3];exact Lad.lt_le (Lad.above_gt f4 f5 hn) (clm_le G hk e hr)
  ·rw [if_neg hpl];obtain ⟨p',e',hb'⟩:=bare_more hpl hb;rw [ep] at e';cases e';obtain ⟨c1,c2,c3,c4⟩:=chg_facts (b:=b) hn f1 f6 f2 ho hg hp hb';have hf:=b.far_le p.1.1 hn;refine Lad.bth_lt rW ((rkt_R G c3 c2 c4).tms (by omega)) rt ?_;have ih:=stk_less G e hr hn o2 n2 hb';have rh:=G_R G o2 n2;have rh':=G_R G c2 c4;show (Lad.tms (lad (b.wide p.1.1) (ρ p.1.1) (rk b ρ (chg b n (grw r n) pl p).2)) (1+b.far p.1.1 n)).lt (lad (b.wide p.1.1) (ρ p.1.1) (rk b ρ p.1.2))=true;obtain ⟨ro,rne⟩:=G.rt _ n1;rw [far_w2];cases hw:b.wide p.1.1 with
   | true =>
    rw [if_pos rfl];cases hq:ρ p.1.1 with
    | nil=>exact absurd hq rne
    | cons e0 m0 r0 =>
     rw [hq] at ro;exact Lad.wide_less ro rh rh' ih hn
   | false =>
    rw [if_neg (by decide),Int.add_zero,Lad.tms_by_one (ro.lad rh')];exact Lad.lad_lt ro rh' rh rne ih
end Gr
namespace Gr
variable {b:Bk} {ρ:Str->Lad} {ns:List Str} {C F n:Int} {g X fr:Gr} {p:Tr × Int}
theorem wsum_zero {γ:Type} (f:γ->Int):∀ l:List (γ × Int),(∀ p ∈ l,f p.1=0)->wsum f l=0
 | [],_=>rfl
 | p::r,h=>by
  show f p.1*p.2+wsum f r=0;rw [h p (mcs ..),wsum_zero f r fun q hq=>h q (mcm _ hq)]; omega
theorem rkt_ne (G:Goods b ρ ns) {t:Tr} (hk:t.1 ∈ ns) (ho:t.2.Ok C) (hn:Named ns t.2):rkt b ρ t ≠ .nil:=by
 intro z;have h1:=Lad.le_lad1 (w:=b.wide t.1) (G.rt _ hk).1 (rk_R (b:=b) ho (RN.named G.rt hn)) (G.rt _ hk).2;have h2:Lad.Le (ρ t.1) .nil:=by
  rw [<- z]; exact h1
 rcases h2.cases with e | e
 ·exact (G.rt _ hk).2 e
 ·rw [Lad.lt_nil_r] at e; cases e
theorem rk_ne (G:Goods b ρ ns) (h:g.Ok C) (hn:Named ns g) (hg:g ≠ .nil):rk b ρ g ≠ .nil:=by
 cases g with
 | nil=>exact absurd rfl hg
 | cons k i m r =>
  have hp:((k,i),m) ∈ (Gr.cons k i m r).ps:=mcs ..;obtain ⟨h1,h2⟩:=named_iff.mp hn _ hp;have ho:=(ok_mem h hp).2.1;intro z;have e:=rk_take G h hn hp;rw [z] at e;have h3:Lad.Le (rkt b ρ (k,i)) .nil:=by
   rw [e,Lad.bth_comm];exact Lad.le_bth (rkt_R G h1 ho h2) (G_R G (wo_ok h (by decide)) (named_wo hn _ _))
  rcases h3.cases with e | e
  ·exact rkt_ne G h1 ho h2 e
  ·rw [Lad.lt_nil_r] at e; cases e
theorem lst_tree (G:Goods b ρ ns) (h:g.Ok C) (hn:Named ns g) (hg:g ≠ .nil):∃ p ∈ g.ps,Lad.lst (rkt b ρ p.1)=Lad.lst (rk b ρ g):=by
 have rg:=G_R G h hn;have ne:=rk_ne G h hn hg;have s1:=Lad.S_lst rg ne;have ex:∃ p ∈ g.ps,Lad.S (rkt b ρ p.1) (Lad.lst (rk b ρ g)) ≠ 0:=by
  rcases Classical.em (∃ p ∈ g.ps,Lad.S (rkt b ρ p.1) (Lad.lst (rk b ρ g)) ≠ 0) with z | z
  ·exact z
  ·exfalso
   have:Lad.S (rk b ρ g) (Lad.lst (rk b ρ g))=0:=by
    rw [S_rk];exact wsum_zero _ _ fun p hp=>Classical.byContradiction fun w=>z ⟨p,hp,w⟩
   omega
 obtain ⟨p,hp,hs⟩:=ex;obtain ⟨h1,h2⟩:=named_iff.mp hn p hp;have rt:=rkt_R G h1 (ok_mem h hp).2.1 h2;have s2:0<=Lad.S (rkt b ρ p.1) (Lad.lst (rk b ρ g)):=by
  obtain ⟨B,hB,hb⟩:=rt;exact Lad.S_nonneg hb _
 refine ⟨p,hp,Lad.Le.anti (Lad.lst_le rt (by omega)) (Lad.lst_le rg ?_)⟩;rw [rk_take G h hn hp,Lad.S_bth];have rW:=G_R G (wo_ok (t:=p.1) (m:=1) h (by decide)) (named_wo hn p.1 1);have s3:=Lad.S_lst rt (rkt_ne G h1 (ok_mem h hp).2.1 h2);have s4:0<=Lad.S (rk b ρ (wo g p.1 1)) (Lad.lst (rkt b ρ p.1)):=by
  obtain ⟨B,hB,hb⟩:=rW;exact Lad.S_nonneg hb _
 omega
def Reach (b:Bk) (ρ:Str->Lad) (g:Gr) (t:Lad) (pl:Pl) (i:Nat) (r:Ru) (n:Int):Prop :=
 0<=n/\∃ k kd,bareAt g pl=some k/\b.get k=some kd/\(noR::kd.rs)[i]?=some r/\∀ n',n<=n'->Lad.Le t (rk b ρ (stk b n' (grw r n') pl g).1)
def ReachT (b:Bk) (ρ:Str->Lad) (x:Tr) (t:Lad) (pl:Pl) (i:Nat) (r:Ru) (n:Int):Prop :=
 0<=n/\∃ k kd,((pl=[]/\x=(k,.nil))\/(pl ≠ []/\bareAt x.2 pl=some k))/\b.get k=some kd/\(noR::kd.rs)[i]?=some r/\∀ n',n<=n'->Lad.Le t (cme b ρ n' (grw r n') pl (x,1))
theorem reach_grove (G:Goods b ρ ns) (h:g.Ok C) (hn:Named ns g) {at_:Nat} (ep:g.ps[at_]?=some p) (e:Lad.lst (rkt b ρ p.1)=Lad.lst (rk b ρ g)) {t:Lad} (rt:Lad.R t) (ht:t.lt (rk b ρ g)=true)
  {pl:Pl} {i:Nat} {r:Ru} (hT:ReachT b ρ p.1 (Lad.gone (rk b ρ g) (rkt b ρ p.1) t) pl i r n):Reach b ρ g t (at_::pl) i r n:=by
 obtain ⟨h0,k,kd,hk,ek,er,hr⟩:=hT;have hp:=Qu ep;obtain ⟨n1,n2⟩:=named_iff.mp hn p hp;have o2:=(ok_mem h hp).2.1;have hb:bareAt g (at_::pl)=some k:=by
  rw [bareAt,ep];rcases hk with ⟨h1,h2⟩ | ⟨h1,h2⟩
  ·subst h1;show (if ([]:Pl)=[] then (if p.1.2=.nil then some p.1.1 else none) else _)=some k;rw [if_pos rfl,h2,if_pos rfl]
  ·show (if pl=[] then _ else bareAt p.1.2 pl)=some k;rw [if_neg h1,h2]
 refine ⟨h0,k,kd,hb,ek,er,fun n' hn'=>?_⟩;have n0:0<=n':=by omega
 have kn:k ∈ ns:=bare_named hn hb;have rm:=Qu er;obtain ⟨f1,f2,f3,f4,f5⟩:=grw_facts (n:=n') G kn ek rm n0;have f6:(1:Int)<=1000000001*n'+2000000002:=by omega
 rw [rk_stk G n0 f1 f6 f2 h hn ep hb];have rW:=G_R G (wo_ok (t:=p.1) (m:=1) h (by decide)) (named_wo hn p.1 1);have rp:=rkt_R G n1 o2 n2;have rc:Lad.R (cme b ρ n' (grw r n') pl p):=by
  unfold cme
  split
  ·exact G_R G f1 f2
  ·rename_i hpl;rcases hk with ⟨h1,_⟩ | ⟨h1,h2⟩
   ·exact absurd h1 hpl
   ·obtain ⟨c1,c2,c3,c4⟩:=chg_facts (b:=b) n0 f1 f6 f2 h hn hp h2;have:=b.far_le p.1.1 n0;exact (rkt_R G c3 c2 c4).tms (by omega)
 have gne:g ≠ .nil:=fun z=>by rw [z] at hp; exact nomatch hp
 have wne:=rk_ne G h hn gne;have q:=hr n' hn';have ew:=rk_take G h hn hp;rw [ew] at q ht wne e;refine Lad.gone_ge rW rp (rkt_ne G n1 o2 n2) rt rc wne e.symm ht ?_;exact q
theorem reach_bare (G:Goods b ρ ns) {k:Str} {kd:Kd} (hk:k ∈ ns) (ek:b.get k=some kd) {i:Nat} {r:Ru} (er:(noR::kd.rs)[i]?=some r) (h0:0<=n) {t:Lad}
  (hr:∀ n',n<=n'->Lad.Le t ((rk b ρ r.1).bth (Lad.tms (rk b ρ r.2) n'))):ReachT b ρ (k,.nil) t [] i r n:=by
 refine ⟨h0,k,kd,.inl ⟨rfl,rfl⟩,ek,er,fun n' hn'=>?_⟩;obtain ⟨f1,f2,f3,f4,f5⟩:=grw_facts (n:=n') G hk ek (Qu er) (by omega);show Lad.Le t (if ([]:Pl)=[] then rk b ρ (grw r n') else _);rw [if_pos rfl,f3];exact hr n' hn'
theorem reach_held (G:Goods b ρ ns) {x:Tr} (hk:x.1 ∈ ns) (nk:z03 x.1) (ho:x.2.Ok C) (hn:Named ns x.2) {t u:Lad} (rt:Lad.R t) {pl:Pl} {i:Nat} {r:Ru} (hu:Reach b ρ x.2 u pl i r n) {n2:Int} (hle:n<=n2)
  (hf:b.wide x.1=false->u=Lad.ron (ρ x.1) t) (hw:b.wide x.1=true->u=Lad.ron (Lad.hde (ρ x.1)) (Lad.hde t)/\Lad.frt t<=n2):ReachT b ρ x t pl i r n2:=by
 obtain ⟨h0,k,kd,hb,ek,er,hr⟩:=hu;have hpl:=bare_ne hb;refine ⟨by omega,k,kd,.inr ⟨hpl,hb⟩,ek,er,fun n' hn'=>?_⟩;have n0:0<=n':=by omega
 have kn:k ∈ ns:=bare_named hn hb;obtain ⟨f1,f2,f3,f4,f5⟩:=grw_facts (n:=n') G kn ek (Qu er) n0;have f6:(1:Int)<=1000000001*n'+2000000002:=by omega
 have o2:=stk_ok (b:=b) n0 f6 f1 ho hb;have m2:=stk_named (b:=b) (n:=n') f2 hb hn;have rh:=G_R G o2 m2;obtain ⟨ro,rne⟩:=G.rt _ hk;have q:=hr n' (by omega);show Lad.Le t (if pl=[] then _ else Lad.tms (lad (b.wide x.1) (ρ x.1) (rk b ρ (stk b n' (grw r n') pl x.2).1)) (1+b.far x.1 n'));rw [if_neg hpl,far_w2];cases hwd:b.wide x.1 with
 | true =>
  obtain ⟨eu,h3⟩:=hw hwd;rw [if_pos rfl];cases ho2:ρ x.1 with
  | nil=>exact absurd ho2 rne
  | cons e0 m0 r0 =>
   rw [ho2] at ro eu;rw [eu] at q;exact Lad.wide_reach ro rt rh q (by omega) n0
 | false =>
  rw [if_neg (by decide),Int.add_zero,Lad.tms_by_one (ro.lad rh)];rw [hf hwd] at q;exact Lad.flat_reach ro rt rh q
end Gr
theorem Lad.lay_lads:∀ ls:List Lad,(∀ l ∈ ls,l.deep<=31)->PyData.canLayAll0 (ls.map Lad.enc)=true
 | [],_=>rfl
 | l::r,h=>by
  show (PyData.canLay0 l.enc&&PyData.canLayAll0 (r.map Lad.enc))=true;rw [SeqAt.canLay_of_shaped (Lad.shaped_enc (h l (mcs ..))),lay_lads r fun k hk=>h k (mcm _ hk)]
  rfl
theorem Lad.S_small {l:Lad} {B:Int} (h:l.Ok B) (hB:1<=B) (x:Lad):0<=Lad.S l x/\Lad.S l x < B:=by
 rcases Lad.S_cases h x with ⟨e,_⟩ | ⟨m,_,e,h1,h2⟩ <;> omega
theorem Lad.frt_le {l:Lad} {B:Int} (h:l.Ok B) (hB:1<=B):0<=Lad.frt l/\Lad.frt l<=B:=by
 cases l with
 | nil=>exact ⟨Int.le_refl _,by show (0:Int)<=B; omega⟩
 | cons e m r =>
  obtain ⟨_,h1,h2,_⟩:=h;simp only [Lad.frt]
  split <;> omega
theorem Lad.hde_deep (l:Lad):(Lad.hde l).deep<=l.deep:=by
 cases l with
 | nil=>exact Yc _
 | cons e m r=>exact Nat.le_of_lt (Lad.mem_deep (.cons e m r) (e,m) (mcs ..))
theorem Lad.hde_parts (l:Lad):(Lad.hde l).parts<=l.parts:=by
 cases l with
 | nil=>exact Yc _
 | cons e m r=>exact Nat.le_of_lt (Lad.mem_parts (.cons e m r) (e,m) (mcs ..))
theorem Lad.hde_ok {l:Lad} {B:Int} (h:l.Ok B):(Lad.hde l).Ok B:=by
 cases l with
 | nil=>exact trivial
 | cons e m r=>exact h.1
theorem Lad.lst_deep (l:Lad):(Lad.lst l).deep<=l.deep:=by
 by_cases hl:l=.nil
 ·rw [hl]; exact Yc _
 ·obtain ⟨qs,p,e⟩:=Lad.snoc_of hl;rw [Lad.lst_of e];exact Nat.le_of_lt (Lad.mem_deep l p (by rw [e]; simp))
theorem Lad.gone_ok {w l g:Lad} {A B C:Int} (hw:w.Ok A) (hA:1<=A) (hl:l.Ok B) (hB:1<=B) (hg:g.Ok C) (hC:1<=C):(Lad.gone w l g).Ok (B+C) :=
 Lad.bhd_ok (Lad.low_ok hl) (Lad.ron_ok ⟨A,hA,Lad.low_ok hw⟩ hg hC) hB hC
theorem Lad.gone_parts (w l g:Lad):(Lad.gone w l g).parts<=l.parts+g.parts:=by
 have h1:=Lad.bhd_parts (Lad.low l) (Lad.ron (Lad.low w) g);have h2:=Lad.low_parts l;have h3:=Lad.ron_parts (Lad.low w) g;unfold Lad.gone;omega
theorem Lad.gone_deep {w l g:Lad} {n:Nat} (h1:l.deep<=n) (h2:g.deep<=n):(Lad.gone w l g).deep<=n :=
 Lad.bhd_deep (Lad.low_deep h1) (Yb (Lad.ron_deep _ _) h2)
theorem zek {K:Qn} {i:Nat} {y:V} {t:Lad} {σ:L2.St} {H:Hp} {Q:VK} (hσ:σ[i]?=some (some y)) (hy:LA K H y t) (q:∀ (ev:V) (H2:Hp),SB [] H H2->LA K H2 ev (Lad.hde t)->Q ev H2) :
  tIf (fun σ H Q=>tVar i σ H fun x H'=>∃ k,TruV K x H' k/\Q k H') (tOp (rIxT K) (tOp (rIxT K) (tVar i) (tC (.int 0))) (tC (.int 0))) (tTup tNil) σ H Q:=by
 obtain ⟨b,ys,rfl,hsb,hbb⟩:=z05 hy;refine ⟨_,hσ,_,.inr (.inl ⟨ys,hsb,rfl⟩),?_⟩;cases t with
 | nil =>
  cases hbb;refine iteF ⟨by show 0<=sizeLine; decide,fun c hc=>q _ _ (SB.new hc _) (z10 (SqT.of Qt))⟩
 | cons e m r =>
  rw [show (Lad.cons e m r).ps=(e,m)::r.ps from rfl] at hbb;cases hbb with
  | @cons y0 yr _ _ h0 hbr =>
  obtain ⟨c,ue,rfl,hsc,hle⟩:=z0b h0;refine iteT ⟨_,hσ,b,_,_,_,rfl,rfl,hsb,atI_nat (j:=0) rfl,c,_,_,_,rfl,rfl,hsc,atI_nat (j:=0) rfl,q _ _ SB.refl hle⟩
structure LFitW (l:Lad):Prop where
 deep:l.deep<=29
 parts:l.parts<=900000
 num:∀ p ∈ l.ps,0<=p.2/\p.2 < 2 ^ 2000
theorem LFit.w {l:Lad} (h:LFit l):LFitW l:=⟨Yb h.deep (by decide),Yb h.parts (by decide),h.num⟩
def Gr.FitW (b:Bk) (ρ:Str->Lad) (ns:List Str):Gr->Prop
 | .nil=>True
 | .cons k g m r=>(k ∈ ns/\k ∈ b.names/\ρ k ≠ .nil/\LFitW (ρ k)/\LFitW (Gr.rk b ρ g)/\LFitW (Gr.rkt b ρ (k,g))/\0<=m/\m < 2 ^ 2000/\((Gr.rkT b ρ (.cons k g m r)).flatMap Lad.ps).length<=1900000)/\Gr.FitW b ρ ns g/\Gr.FitW b ρ ns r
namespace Gr
variable {b:Bk} {ρ:Str->Lad} {ns:List Str}
theorem Fit.w:∀ {g:Gr},Fit b ρ ns g->FitW b ρ ns g
 | .nil,_=>trivial
 | .cons k g m r,h=>by
  obtain ⟨⟨h1,h2,h3,h4,h5,h6,h7,h8,h9⟩,hg,hr⟩:=h;exact ⟨⟨h1,h2,h3,h4.w,h5.w,h6.w,h7,h8,Yb h9 (by decide)⟩,Fit.w hg,Fit.w hr⟩
theorem FitW.at:∀ {g:Gr},FitW b ρ ns g->∀ p ∈ g.ps,(p.1.1 ∈ ns/\p.1.1 ∈ b.names/\ρ p.1.1 ≠ .nil/\LFitW (ρ p.1.1)/\LFitW (rk b ρ p.1.2)/\LFitW (rkt b ρ p.1)/\0<=p.2/\p.2 < 2 ^ 2000)/\FitW b ρ ns p.1.2
 | .nil,_,p,hp=>nomatch hp
 | .cons k g m r,h,p,hp=>by
  obtain ⟨⟨h1,h2,h3,h4,h5,h6,h7,h8,_⟩,hg,hr⟩:=h;rcases Qv hp with rfl | hp
  ·exact ⟨⟨h1,h2,h3,h4,h5,h6,h7,h8⟩,hg⟩
  ·exact FitW.at hr p hp
theorem FitW.len:∀ {g:Gr},FitW b ρ ns g->((rkT b ρ g).flatMap Lad.ps).length<=1900000
 | .nil,_=>by simp [rkT]
 | .cons k g m r,h=>h.1.2.2.2.2.2.2.2.2
theorem FitW.named:∀ {g:Gr},FitW b ρ ns g->Named ns g
 | .nil,_=>fun x hx=>nomatch hx
 | .cons k g m r,h=>by
  intro x hx;rcases Qv hx with z | hx
  ·rw [z]; exact h.1.1
  ·rcases Qw hx with hx | hx
   ·exact FitW.named h.2.1 x hx
   ·exact FitW.named h.2.2 x hx
theorem FitW.mono {ms:List Str} (h:∀ n ∈ ns,n ∈ ms):∀ {g:Gr},FitW b ρ ns g->FitW b ρ ms g
 | .nil,_=>trivial
 | .cons k g m r,⟨h1,h2,h3⟩=>⟨⟨h _ h1.1,h1.2⟩,FitW.mono h h2,FitW.mono h h3⟩
def Bd (b:Bk) (ρ:Str->Lad) (P:Nat) (B:Int) (g:Gr):Prop:=∀ x ∈ g.within,(rkt b ρ x.1).parts<=P/\(rkt b ρ x.1).Ok B
theorem Bd.at {P:Nat} {B:Int} {g:Gr} (h:Bd b ρ P B g) {p:Tr × Int} (hp:p ∈ g.ps):((rkt b ρ p.1).parts<=P/\(rkt b ρ p.1).Ok B)/\Bd b ρ P B p.1.2:=by
 have hw:∀ x ∈ p::p.1.2.within,x ∈ g.within:=fun x hx=>by
  rw [within_ps];exact List.mem_flatMap.mpr ⟨p,hp,hx⟩
 exact ⟨h p (hw p (mcs ..)),fun x hx=>h x (hw x (mcm _ hx))⟩
end Gr
def z8c (K:Qn) (C:Addr):Sp:=fun vs H Q _=>∃ (v u t:V) (b:Bk) (n:Str) (o l:Lad),vs=[v,.str n,u,t]/\BkA K C H v b/\b.length<=1000/\n ∈ b.names/\(LA K H u o/\o ≠ .nil/\LFitW o)/\(LA K H t l/\LFitW l)/\∀ (x:V) (H':Hp),SB [] H H'->LA K H' x (lad (b.wide n) o l)->Q x H'
def z1l (K:Qn) (C:Addr) (m:Nat):Sp:=fun vs H Q _=>∃ (v t:V) (d:Addr) (b:Bk) (ρ:Str->Lad) (ns:List Str) (k:Str) (g:Gr),vs=[v,.ref d,t]/\BkA K C H v b/\b.length<=1000/\RkD K H d ρ ns/\Dp K H t (Gr.tEnc (k,g))/\g.deep < m/\(k ∈ ns/\k ∈ b.names/\ρ k ≠ .nil/\LFitW (ρ k)/\LFitW (Gr.rk b ρ g))/\Gr.FitW b ρ ns g/\g.parts<=900/\∀ (x:V) (H':Hp),SB [] H H'->LA K H' x (Gr.rkt b ρ (k,g))->Q x H'
def z1f (K:Qn) (C:Addr) (m:Nat):Sp:=fun vs H Q _=>∃ (v u:V) (d:Addr) (b:Bk) (ρ:Str->Lad) (ns:List Str) (g:Gr),vs=[v,.ref d,u]/\BkA K C H v b/\b.length<=1000/\RkD K H d ρ ns/\GA K H u g/\g.deep < m/\Gr.FitW b ρ ns g/\g.parts<=900/\∀ (x:V) (H':Hp),SB [] H H'->LA K H' x (Gr.rk b ρ g)->Q x H'
theorem z9y {P:Program} {w:World} {K:Qn} {mg:Str->Option Value} {base:Heap} {f:Addr} {fd:FuncData} {C:Addr} {ps:List Str} {k:Nat}:FnOk P w K mg base CX0 k f fd ps (z1f K C 0):=z0v fun vs H Q E ⟨_,_,_,_,_,_,_,_,_,_,_,_,h,_⟩=>by omega
def z78 (K:Qn):Sp:=fun vs H Q _=>∃ (v:V) (l:Lad),vs=[v]/\LA K H v l/\l ≠ .nil/\l.parts<=900000/\∀ (x:V) (H':Hp),SB [] H H'->LA K H' x (Lad.low l)->Q x H'
def za8 (K:Qn):Sp:=fun vs H Q _=>∃ (v u:V) (l k:Lad),vs=[v,u]/\LA K H v l/\LA K H u k/\l.deep<=29/\k.deep<=29/\l.parts<=900000/\k.parts<=900000/\∀ (x:V) (H':Hp),SB [] H H'->LA K H' x (Lad.ron l k)->Q x H'
def zan (K:Qn):Sp:=fun vs H Q _=>∃ (v u y:V) (w l g:Lad),vs=[v,u,y]/\(LA K H v w/\LA K H u l/\LA K H y g)/\(w ≠ .nil/\l ≠ .nil)/\(w.deep<=29/\l.deep<=29/\g.deep<=29)/\(w.parts<=900000/\l.parts<=900000/\g.parts<=900000)/\∀ (x:V) (H':Hp),SB [] H H'->LA K H' x (Lad.gone w l g)->Q x H'
def z7e (K:Qn):Sp:=fun vs H Q _=>∃ (v:V) (l:Lad),vs=[v]/\LA K H v l/\l.parts<=900000/\Q (.int (Lad.frt l)) H
structure Gds (b:Bk) (ρ:Str->Lad) (es:List Str):Prop extends Gr.Goods b ρ es where
 ok:b.Ok
 sub:∀ n ∈ es,n ∈ b.names
 ru:∀ n ∈ es,∀ kd,b.get n=some kd->∀ r ∈ kd.rs,RFit b ρ es r/\(clm b ρ r).deep<=31
theorem zga {b:Bk} {ρ:Str->Lad} {es:List Str} (ok:b.Ok) (ow:OwnR b ρ) (eo:EndO b es) (hR:∀ n ∈ b.names,EndK b n->Lad.R (ρ n)/\ρ n ≠ .nil):Gds b ρ es:=by
 have hadj:∀ n ∈ es,∀ m ∈ adj b n,m ∈ es:=fun n hn m hm=>(eo.mem m).mpr ⟨z16 ok hm,((eo.mem n).mp hn).2.next hm⟩;have hled:∀ n ∈ es,∀ kd,b.get n=some kd->∀ r ∈ kd.rs,∀ x ∈ Ru.within r,x.1.1 ∈ es:=fun n hn kd e r hr x hx=>hadj n hn _ (by rw [z98 e]; exact z0l hr hx);refine ⟨⟨fun n hn=>hR n ((eo.mem n).mp hn).1 ((eo.mem n).mp hn).2,fun n hn kd e r hr=>?_,fun n hn kd e=>?_⟩,ok,fun n hn=>((eo.mem n).mp hn).1,fun n hn kd e r hr=>?_⟩
 ·obtain ⟨km,rfl⟩:=Bk.get_some e;refine ⟨(ok.named km hr).1,fun x hx=>hled _ hn kd e r hr x (mal _ hx),fun x hx=>hled _ hn kd e r hr x (mar _ hx)⟩
 ·obtain ⟨km,rfl⟩:=Bk.get_some e;exact ow.own kd km ((eo.mem _).mp hn).2
 ·obtain ⟨km,rfl⟩:=Bk.get_some e;have he:=(eo.mem _).mp hn;have hf:=ow.fit kd km he.2 es (hadj _ hn) r hr;exact ⟨hf,Yb (Lad.abv_deep hf.2.2.1 hf.2.2.2.1 (by decide)) (by decide)⟩
def z9h (K:Qn) (C:Addr):Sp:=fun vs H Q _=>∃ (v y:V) (d:Addr) (k:Str) (b:Bk) (ρ:Str->Lad) (es:List Str) (t:Lad) (D:Int),vs=[v,.ref d,.str k,y]/\BkA K C H v b/\RkD K H d ρ es/\Gds b ρ es/\k ∈ es/\(LA K H y t/\t.Ok D/\1<=D/\t.deep<=29/\t.parts<=900000)/\(ρ k).deep<=29/\t.lt (ρ k)=true /\
 ∀ (p:Addr) (H':Hp) (kd:Kd) (i:Nat) (r:Ru) (n:Int),SB [] H H'->SqT K H' p [.int (i:Nat),.int n]->b.get k=some kd->(noR::kd.rs)[i]?=some r->0<=n->n<=D->(∀ n',n<=n'->Lad.Le t ((Gr.rk b ρ r.1).bth (Lad.tms (Gr.rk b ρ r.2) n')))->Q (.ref p) H'
def z5j (K:Qn) (H:Hp) (p:Addr) (pl:Pl) (i:Nat) (n:Int):Prop:=∃ a:Addr,SqT K H p [.ref a,.int (i:Nat),.int n]/\SqT K H a (pl.map fun n:Nat=>V.int (n:Int))
def z4q (K:Qn) (C:Addr) (m:Nat):Sp:=fun vs H Q _=>∃ (v z y:V) (d:Addr) (b:Bk) (ρ:Str->Lad) (es:List Str) (k:Str) (g:Gr) (t:Lad) (D E B:Int) (P:Nat),vs=[v,.ref d,z,y]/\BkA K C H v b/\RkD K H d ρ es/\Gds b ρ es/\Dp K H z (Gr.tEnc (k,g))/\g.deep < m/\(k ∈ es/\LFitW (ρ k)/\LFitW (Gr.rk b ρ g)/\z03 k)/\Gr.FitW b ρ es g/\((g.parts<=900/\g.deep < 20)/\g.Ok E/\Gr.Bd b ρ P B g) /\
 (LA K H y t/\t.Ok D/\1<=D/\1<=B/\t.deep<=29/\t.parts+P*g.deep<=900000/\D+B*g.deep<=2 ^ 1990)/\t.lt (Gr.rkt b ρ (k,g))=true /\
 ∀ (p:Addr) (H':Hp) (pl:Pl) (i:Nat) (r:Ru) (n:Int),SB [] H H'->z5j K H' p pl i n->Gr.ReachT b ρ (k,g) t pl i r n->n<=D+B*g.deep->Q (.ref p) H'
def z1v (K:Qn) (C:Addr) (m:Nat):Sp:=fun vs H Q _=>∃ (v z y:V) (d:Addr) (b:Bk) (ρ:Str->Lad) (es:List Str) (g:Gr) (t:Lad) (D E B:Int) (P:Nat),vs=[v,.ref d,z,y]/\BkA K C H v b/\RkD K H d ρ es/\Gds b ρ es/\GA K H z g/\g.deep < m/\Gr.FitW b ρ es g/\(LFitW (Gr.rk b ρ g)/\(g.parts<=900/\g.deep < 20)/\g.Ok E/\Gr.Bd b ρ P B g) /\
 (LA K H y t/\t.Ok D/\1<=D/\1<=B/\t.deep<=29/\t.parts+P*g.deep<=900000/\D+B*g.deep<=2 ^ 1990)/\t.lt (Gr.rk b ρ g)=true /\
 ∀ (p:Addr) (H':Hp) (pl:Pl) (i:Nat) (r:Ru) (n:Int),SB [] H H'->z5j K H' p pl i n->Gr.Reach b ρ g t pl i r n->n<=D+B*g.deep->Q (.ref p) H'
theorem z9r {P:Program} {w:World} {K:Qn} {mg:Str->Option Value} {base:Heap} {f:Addr} {fd:FuncData} {C:Addr} {ps:List Str} {k:Nat}:FnOk P w K mg base (L2.CX P w) k f fd ps (z1v K C 0):=zbv fun vs H Q E ⟨_,_,_,_,_,_,_,_,_,_,_,_,_,_,_,_,_,_,h,_⟩=>by omega
def z7y (K:Qn) (C N NR:Addr):Sp:=fun vs H Q E=>∃ (v z y:V) (b:Bk) (ρ:Str->Lad) (g:Gr) (t:Lad) (D F B:Int) (P:Nat),vs=[v,z,y]/\BkA K C H v b/\(b.Ok/\OwnR b ρ/\∀ n ∈ b.names,EndK b n->Lad.R (ρ n)/\ρ n ≠ .nil)/\(GA K H z g/\g.deep < 20/\g.parts<=900/\g.Ok F/\Gr.Named b.names g/\∀ x ∈ g.within,EndK b x.1.1)/\((∀ ns,(∀ n ∈ b.names,EndK b n->n ∈ ns)->Gr.FitW b ρ ns g)/\LFitW (Gr.rk b ρ g)/\Gr.Bd b ρ P B g) /\
 (LA K H y t/\t.Ok D/\1<=D/\1<=B/\t.deep<=29/\t.parts+P*g.deep<=900000/\D+B*g.deep<=2 ^ 1990) /\
 (t.lt (Gr.rk b ρ g)=true->∀ (p:Addr) (H':Hp) (pl:Pl) (i:Nat) (r:Ru) (n:Int),SB [] H H'->z5j K H' p pl i n->Gr.Reach b ρ g t pl i r n->n<=D+B*g.deep->Q (.ref p) H')/\(t.lt (Gr.rk b ρ g)=false->∀ H',SB [] H H'->E (.ref NR) none H')
def ItM (K:Qn) (a b:Addr):It where
 go:=fun i H=>∃ (xs ys:List V) (x y:V),(SqL K H a xs/\xs[i]?=some x)/\SqT K H b ys/\ys[i]?=some y
 yld:=fun i H v H'=>∃ (T:Addr) (x y:V),v=.ref T/\H T=none/\H'=upd H T (.tup [x,y])/\(∀ xs,SqL K H a xs->xs[i]?=some x)/\∀ ys,SqT K H b ys->ys[i]?=some y
 stop:=fun i H=>∃ xs ys:List V,SqL K H a xs/\SqT K H b ys/\i=min xs.length ys.length
theorem zam {z TI TO i1 i2 a b:Addr} (D:ZipApart z TI TO i1 i2 a b):ZipSep2 z TI TO i1 i2 [i1,a] [i2,b] where
 TIz:=D.TIz
 TOz:=D.TOz
 TITO:=D.TITO
 TIi1:=D.TIi1
 mem1:=mcs ..
 zf1:=by simp [D.i1z.symm,D.l1z.symm]
 Tf1:=by simp [D.TOi1,D.l1TO.symm]
 TIi2:=D.TIi2
 mem2:=mcs ..
 zf2:=by simp [D.i2z.symm,D.l2z.symm]
 Tf2:=by simp [D.TOi2,D.l2TO.symm]
 sep1_2:=by simp [D.i12,D.l2i1.symm]
 sep2_1:=by simp [D.i12.symm,D.l1i2.symm]
abbrev ZSt (z TI TO i1 i2 a b:Addr) (i:Nat) (h:Heap):Prop:=IsZip h z TI TO .none/\IsPair h TI (.ref i1) (.ref i2)/\(∃ x y,IsPair h TO x y)/\h.IsListIter i1 a i/\h.IsTupleIter i2 b i
theorem z83 {z TI TO i1 i2 a b:Addr} {i:Nat} {h:Heap} (st:ZSt z TI TO i1 i2 a b i h):∀ c ∈ [z,TI,TO,i1,i2],∃ o,h.get? c=some o/\∀ v,o.data ≠ .cell v:=by
 obtain ⟨hz,hTI,⟨x,y,hTO⟩,⟨o1,e1,_,d1⟩,⟨o2,e2,_,d2⟩⟩:=st;intro c hc;simp only [List.mem_cons,nmn,or_false] at hc;rcases hc with rfl | rfl | rfl | rfl | rfl
 ·exact ⟨_,hz,fun v q=>nomatch q⟩
 ·exact ⟨_,hTI,fun v q=>nomatch q⟩
 ·exact ⟨_,hTO,fun v q=>nomatch q⟩
 ·exact ⟨o1,e1,fun v q=>by rw [d1] at q; cases q⟩
 ·exact ⟨o2,e2,fun v q=>by rw [d2] at q; cases q⟩
theorem zar {P:Program} {w:World} {K:Qn} {elts:List Expr} {kk:Nat} {tpos:Pos} {a b z TI TO i1 i2:Addr} (D:ZipApart z TI TO i1 i2 a b):Turn P w K (.Tuple elts kk tpos) (ItM K a b) [z,TI,TO,i1,i2] z (ZSt z TI TO i1 i2 a b) where
 mem:=mcs ..
 obj:=fun i h st=>z83 st
 keep:=fun i h h' st k=>by
  obtain ⟨hz,hTI,⟨x,y,hTO⟩,h1,h2⟩:=st;exact ⟨k z (by simp) _ hz,k TI (by simp) _ hTI,⟨x,y,k TO (by simp) _ hTO⟩,h1.at fun o q=>k i1 (by simp) o q,h2.at fun o q=>k i2 (by simp) o q⟩
 item:=by
  intro X hP hw hK hc i pins s σ H E I hf st hg;subst hP hw hK;have live:=z83 st;obtain ⟨hz,hTI,⟨x0,y0,hTO⟩,h1,h2⟩:=st;obtain ⟨xs,ys,x,y,⟨hqx,hx⟩,hqy,hy⟩:=hg;obtain ⟨its,rv,p,_⟩:=I.list hqx;obtain ⟨its2,rv2,p2,_⟩:=I.tuple hqy;have l1:=rv.length;have l2:=rv2.length;have hd:X.A.in1.handled=none:=I.ok.hd hc;have i1lt:i < its.toArray.size:=by
   have:=(List.getElem?_eq_some_iff.mp hx).1;simp; omega
  have i2lt:i < its2.toArray.size:=by
   have:=(List.getElem?_eq_some_iff.mp hy).1;simp; omega
  have hzl:z < s.heap.objs.size:=Heap.lt_size hz;refine wpAny_pyNext_zipD2_item (zam D) (Draws.list hd i1 a D.l1i1 its.toArray) (Draws.tuple hd i2 b D.l2i2 its2.toArray) hz hTI hTO ⟨h1,p.isList⟩ ⟨h2,show s.heap.IsTuple b its2.toArray from p2⟩ i1lt i2lt fun u u2 h' tk e1 e2 z' TO' g1 g2 hT hsz hk=>?_;refine ⟨_,rfl,wpAny_letOwnedTupleGo_zip (s:={ s with heap:=h',toks:=tk }) z' fun h'' z'' sb=>?_⟩;have hT2:h''.get? s.heap.objs.size=some { cls:=.type "tuple",data:=.seq #[u,u2] }:=(sb.2 _ (Nat.ne_of_gt hzl)).trans hT;obtain ⟨v1,hv1,r1⟩:=rv.get hx;obtain ⟨v2,hv2,r2⟩:=rv2.get hy;have q1:u=v1:=by
   have:its[i]?=some u:=by simpa using e1
   rw [hv1] at this;exact (Yd this).symm
  have q2:u2=v2:=by
   have:its2[i]?=some u2:=by simpa using e2
   rw [hv2] at this;exact (Yd this).symm
  subst q1 q2;have new:ObjOk X.prog X.w (upd H s.heap.objs.size (.tup [x,y])) h'' s.heap.objs.size (.tup [x,y]) :=
   ⟨by show 2<=sizeLine; decide,[u,u2],.cons r1 (.cons r2 .nil),⟨_,hT2,rfl,_,rfl⟩⟩
  have I1:Inv X pins σ (upd H s.heap.objs.size (.tup [x,y])) { s with heap:=h'',toks:=tk } :=
   I.turnedNew (ch:=[z,TI,TO,i1,i2]) (fun c o hb q=>by
    simp only [List.mem_cons,nmn,or_false,not_or] at hb;exact (sb.2 c hb.1).trans (hk c o hb.1 hb.2.2.1 hb.2.2.2.1 hb.2.2.2.2 q)) hf (Yc _) new
  refine ⟨.ref s.heap.objs.size,_,I1,rfl,⟨_,x,y,rfl,I.hok.fresh (Yc _),rfl,fun l hl=>by rw [I.list_inj hl hqx]; exact hx,fun l hl=>by rw [I.tuple_inj hl hqy]; exact hy⟩,⟨z'',?_,⟨u,u2,?_⟩,?_,?_⟩,fun c hcm=>?_⟩
  ·exact (sb.2 _ D.TIz).trans (hk _ _ D.TIz D.TITO D.TIi1 D.TIi2 hTI)
  ·exact (sb.2 _ D.TOz).trans TO'
  ·exact g1.1.at fun o q=>(sb.2 _ D.i1z).trans q
  ·exact g2.1.at fun o q=>(sb.2 _ D.i2z).trans q
  ·obtain ⟨o,ho,_⟩:=live c hcm;rw [upd_ne (Nat.ne_of_lt (Heap.lt_size ho))];exact (hf c hcm).1
 done:=by
  intro X hP hw hK hc i pins s σ H E I hf st hg;subst hP hw hK;obtain ⟨hz,hTI,⟨x0,y0,hTO⟩,h1,h2⟩:=st;obtain ⟨xs,ys,hqx,hqy,hend⟩:=hg;obtain ⟨its,rv,p,_⟩:=I.list hqx;obtain ⟨its2,rv2,p2,_⟩:=I.tuple hqy;have l1:=rv.length;have l2:=rv2.length;have hd:X.A.in1.handled=none:=I.ok.hd hc;have s1:its.toArray.size=its.length:=by simp
  have s2:its2.toArray.size=its2.length:=by simp
  exact wpAny_pyNext_zipD2_end (zam D) (Draws.list hd i1 a D.l1i1 its.toArray) (Draws.tuple hd i2 b D.l2i2 its2.toArray) hz hTI hTO ⟨h1,p.isList⟩ ⟨h2,show s.heap.IsTuple b its2.toArray from p2⟩ (by omega) (by omega) (by omega) fun h' tk hk=>⟨rfl,I.turnedL (ch:=[z,TI,TO,i1,i2]) (fun c o hb q=>by
   simp only [List.mem_cons,nmn,or_false,not_or] at hb;exact hk c o hb.1 hb.2.2.1 hb.2.2.2.1 hb.2.2.2.2 q) hf⟩
 self:=fun A i s Q E st h=>wpAny_pyIter_zip st.1 h
def zje (K:Qn) (ta:TA):TI:=fun σ H R=>ta σ H fun vs H1=>∃ a b xs ys,vs=[.ref a,.ref b]/\SqL K H1 a xs/\SqT K H1 b ys/\R (ItM K a b) H1
theorem zd9 {X:Cx} {e e2:Expr} {ta:TA} {p pos tpos:Pos} {elts:List Expr} {kk:Nat} (hg:Gl X "zip") (hm:X.mg "zip"=none) (ha:PA X [e,e2] ta)
  (hs:starEach [e,e2] X.env=(false,eval e X.env)::starEach [e2] X.env:=by rfl) (hpl:(backTo pos (starEach [e2] X.env)).any (·.1)=false:=by rfl) :
  PI X (.Tuple elts kk tpos) (.Call (.Name "zip" p) [e,e2] [] pos) (zje X.K ta):=by
 refine ⟨fun pins s σ H R I h=>?_⟩;refine Call_ (ld_blt I hg hm PyProof.Rows.boot_zip (PyProof.Rows.callWith_type1 (thn (ha.run pos pins s σ H _ I h) fun us s1 ⟨vs,H1,I1,r1,q1⟩=>?_) hs hpl));obtain ⟨a,b,xs,ys,rfl,hqx,hqy,q⟩:=q1;cases r1 with
 | cons ra rr =>
 cases rr with
 | cons rb rr =>
 cases rr;cases ra;cases rb;obtain ⟨its,rv,p1,_⟩:=I1.list hqx;obtain ⟨its2,rv2,p2,_⟩:=I1.tuple hqy;have p2':s1.heap.IsTuple b its2.toArray:=p2;have lb:b < s1.heap.objs.size:=by obtain ⟨o,ho,_⟩:=p2'; exact Heap.lt_size ho
 refine zip_begins2 (begins_list a its.toArray) (begins_tuple b its2.toArray) p1.isList p2' fun h' hz hTI hTO c1 c2 hsz hk=>wpAny_pyIter_zip hz ?_;have I2:Inv X pins σ H1 { s1 with heap:=h' }:=I1.kept (t':=s1.toks) hk;refine ⟨_,_,_,_,H1,rfl,I2,zar (PySem.W.ktu_apart s1.heap.objs.size a b p1.lt lb),⟨hz,hTI,⟨_,_,hTO⟩,⟨_,c1,rfl,rfl⟩,⟨_,c2,rfl,rfl⟩⟩,fun c hcm=>?_,q⟩;have hle:s1.heap.objs.size<=c:=by
  simp only [List.mem_cons,nmn,or_false] at hcm;rcases hcm with z | z | z | z | z <;> rw [z] <;> first | exact Yc _ | exact Nat.le_add_right _ _
 exact I1.fpOk hle (I1.hok.fresh hle)
theorem zac {K:Qn} {a b:Addr} {xs ys:List V} {n:Nat} (hn:n=min xs.length ys.length):Walk (ItM K a b) n (fun H=>SqL K H a xs/\SqT K H b ys) (YPair (fun i=>xs[i]?) (fun i=>ys[i]?)):=by
 subst hn;refine ⟨fun i H hi h=>?_,fun H h=>⟨xs,ys,h.1,h.2,rfl⟩,fun i H x H' hi h y=>?_⟩
 ·have h1:i < xs.length:=by omega
  have h2:i < ys.length:=by omega
  exact ⟨xs,ys,xs[i],ys[i],⟨h.1,List.getElem?_eq_getElem h1⟩,h.2,List.getElem?_eq_getElem h2⟩
 ·obtain ⟨T,u,u2,e1,e2,e3,e4,e5⟩:=y;exact ⟨T,u,u2,e1,e2,e3,e4 _ h.1,e5 _ h.2⟩
structure LFitL (l:Lad):Prop where
 deep:l.deep<=30
 parts:l.parts<=900000
 num:∀ p ∈ l.ps,0<=p.2/\p.2 < 2 ^ 400000
def Gr.FitL (b:Bk) (ρ:Str->Lad) (ns:List Str):Gr->Prop
 | .nil=>True
 | .cons k g m r=>(k ∈ ns/\k ∈ b.names/\ρ k ≠ .nil/\LFitL (ρ k)/\LFitL (Gr.rk b ρ g)/\LFitL (Gr.rkt b ρ (k,g))/\0<=m/\m < 2 ^ 400000/\((Gr.rkT b ρ (.cons k g m r)).map Lad.parts).sum<=900000)/\Gr.FitL b ρ ns g/\Gr.FitL b ρ ns r
namespace Gr
variable {b:Bk} {ρ σ:Str->Lad} {C:Int} {ns:List Str}
theorem rk_numsV {x:Nat} (hk:∀ n ∈ ns,(ρ n).Ok (2 ^ x)):∀ {g:Gr},Named ns g->g.Ok (2 ^ 2100)->(∀ l ∈ rkT b ρ g,l.Ok (2 ^ (x+2102*g.parts)))/\∀ y,((rkT b ρ g).map fun l=>Lad.S l y).sum < 2 ^ (x+2102*g.parts)
 | .nil,_,_=>And.intro (fun l hl=>nomatch hl) (fun y=>by
  show (0:Int) < _;have:=z06 (x+2102*Gr.nil.parts); omega)
 | .cons k g m r,h,ho=>by
  obtain ⟨_,hg,hm1,hm2,hr,_⟩:=ho;have hkn:k ∈ ns:=h ((k,g),m) (mcs ..);obtain ⟨g1,g2⟩:=rk_numsV hk (g:=g) (fun x hx=>h x (mcm _ (mal _ hx))) hg;obtain ⟨r1,r2⟩:=rk_numsV hk (g:=r) (fun x hx=>h x (mcm _ (mar _ hx))) hr;have e1:(Gr.cons k g m r).parts=1+g.parts+r.parts:=rfl;have p0:=z06 (x+2102*g.parts);have px:=z06 x;have io:(Lad.bths (rkT b ρ g)).Ok (2 ^ (x+2102*g.parts)):=Lad.bths_ok g1 (by omega) (Int.le_refl _) g2;have lo:=Lad.lad_ok (w:=b.wide k) (hk k hkn) io px p0;have m1:=z04 (show x<=x+2102*g.parts by omega);have lo2:(lad (b.wide k) (ρ k) (Lad.bths (rkT b ρ g))).Ok (2 ^ (x+2102*g.parts+1)):=lo.mono (by rw [z0o]; omega);have to:=Lad.tms_ok lo2 (show 0<=m by omega);have q0:=z06 (x+2102*g.parts+1);have hb:2 ^ (x+2102*g.parts+1)*m+2 ^ (x+2102*g.parts+1)<=2 ^ (x+2102*g.parts+2101):=by
   have:(2:Int) ^ (x+2102*g.parts+2101)=2 ^ (x+2102*g.parts+1)*2 ^ 2100:=by rw [<- Int.pow_add]
   rw [this];have h2:(2:Int) ^ (x+2102*g.parts+1)*(m+1)<=2 ^ (x+2102*g.parts+1)*2 ^ 2100:=Int.mul_le_mul_of_nonneg_left (by omega) (by omega);rw [Int.mul_add,Int.mul_one] at h2;exact h2
  have to2:=to.mono hb;have w1:=z04 (show x+2102*g.parts+2101<=x+2102*(1+g.parts+r.parts)-1 by omega);have w2:=z04 (show x+2102*r.parts<=x+2102*(1+g.parts+r.parts)-1 by omega);have w3:=z0o (x+2102*(1+g.parts+r.parts)-1);rw [show x+2102*(1+g.parts+r.parts)-1+1=x+2102*(1+g.parts+r.parts) by omega] at w3;have w0:=z06 (x+2102*(1+g.parts+r.parts)-1);rw [e1];refine ⟨fun l hl=>?_,fun y=>?_⟩
  ·rcases Qv hl with rfl | hl
   ·exact to2.mono (by omega)
   ·exact (r1 l hl).mono (by omega)
  ·show Lad.S (Lad.tms (lad (b.wide k) (ρ k) (Lad.bths (rkT b ρ g))) m) y+((rkT b ρ r).map fun l=>Lad.S l y).sum < _;have s2:=r2 y;have s3:Lad.S (Lad.tms (lad (b.wide k) (ρ k) (Lad.bths (rkT b ρ g))) m) y < 2 ^ (x+2102*g.parts+2101)\/Lad.S (Lad.tms (lad (b.wide k) (ρ k) (Lad.bths (rkT b ρ g))) m) y<=0:=by
    rcases Lad.S_cases to2 y with ⟨h1,_⟩ | ⟨mm,_,h2,_,h4⟩
    ·right; omega
    ·left; omega
   have w4:=z06 (x+2102*g.parts+2101);rcases s3 with s3 | s3 <;> omega
theorem rk_fitXW {P D x:Nat} (hk:∀ n ∈ ns,n ∈ b.names/\ρ n ≠ .nil/\(ρ n).parts<=P/\(ρ n).deep<=D/\(ρ n).Ok (2 ^ x)) (hP:1<=P):∀ {g:Gr},Named ns g->g.Ok (2 ^ 119)->P*g.parts<=890000->D+g.deep<=28->x+121*g.parts<=2000->FitW b ρ ns g
 | .nil,_,_,_,_,_=>trivial
 | .cons k g m r,h,ho,hp,hd,hx=>by
  have hP':∀ n ∈ ns,(ρ n).parts<=P/\(ρ n).deep<=D:=fun n hn=>⟨(hk n hn).2.2.1,(hk n hn).2.2.2.1⟩;have hX':∀ n ∈ ns,(ρ n).Ok (2 ^ x):=fun n hn=>(hk n hn).2.2.2.2;have nm:2 ^ 119<=(2:Int) ^ 2000:=z04 (by decide);obtain ⟨hkn,hnn⟩:k ∈ ns/\(Named ns g/\Named ns r):=⟨h ((k,g),m) (mcs ..),fun x hx=>h x (mcm _ (mal _ hx)),fun x hx=>h x (mcm _ (mar _ hx))⟩;obtain ⟨ok0,hg,hm1,hm2,hr,hrise⟩:=ho;have ho:(Gr.cons k g m r).Ok (2 ^ 119):=⟨ok0,hg,hm1,hm2,hr,hrise⟩;have e1:(Gr.cons k g m r).parts=1+g.parts+r.parts:=rfl;have e2:(Gr.cons k g m r).deep=max (1+g.deep) r.deep:=rfl;rw [e1,Nat.mul_add,Nat.mul_add,Nat.mul_one] at hp;rw [e1] at hx;obtain ⟨s1,s2⟩:=rk_size hP' h;obtain ⟨g1,g2⟩:=rk_size hP' hnn.1;obtain ⟨n1,n2⟩:=rk_numsX hX' hnn.1 hg;have p0:=z06 (x+121*g.parts);have px:=z06 x;have io:(Lad.bths (rkT b ρ g)).Ok (2 ^ (x+121*g.parts)):=Lad.bths_ok n1 (by omega) (Int.le_refl _) n2;have lo:=(Lad.lad_ok (w:=b.wide k) (hX' k hkn) io px p0);have m1:=z04 (show x<=x+121*g.parts by omega);have m2:=z04 (show x+121*g.parts+1<=2000 by omega);have m3:=z0o (x+121*g.parts);obtain ⟨kb,kne,kp,kd,kx⟩:=hk k hkn;have num:∀ {l:Lad},l.Ok (2 ^ 2000)->∀ p ∈ l.ps,0<=p.2/\p.2 < 2 ^ 2000:=fun hl p hp=>by
   have:=(Lad.ok_iff.mp hl).1 p hp;exact ⟨by omega,this.2.2⟩
  have ip:(Lad.bths (rkT b ρ g)).parts<=P*g.parts:=Yb (Lad.bths_parts _) g1;have idp:(Lad.bths (rkT b ρ g)).deep<=D+g.deep:=Lad.bths_deep g2;have lp:=Lad.lad_parts (b.wide k) (ρ k) (Lad.bths (rkT b ρ g));have ld:=Lad.lad_deep (w:=b.wide k) (o:=ρ k) (l:=Lad.bths (rkT b ρ g)) (n:=D+g.deep) (by omega) idp;refine ⟨⟨hkn,kb,kne,⟨by omega,by omega,num (kx.mono (by omega))⟩,⟨by show (Lad.bths (rkT b ρ g)).deep<=29; omega,by show (Lad.bths (rkT b ρ g)).parts<=900000; omega,num (io.mono (by omega))⟩,⟨by show (lad (b.wide k) (ρ k) (Lad.bths (rkT b ρ g))).deep<=29; omega,by show (lad (b.wide k) (ρ k) (Lad.bths (rkT b ρ g))).parts<=900000; omega,num (lo.mono (by omega))⟩,by omega,by omega,?_⟩,rk_fitXW hk hP hnn.1 hg (by omega) (by omega) (by omega),rk_fitXW hk hP hnn.2 hr (by omega) (by omega) (by omega)⟩;have key:∀ ls:List Lad,(ls.flatMap Lad.ps).length<=(ls.map Lad.parts).sum:=by
   intro ls
   induction ls with
   | nil=>exact Yc _
   | cons l r ih =>
    rw [List.flatMap_cons,Yf,List.map_cons,List.sum_cons,Lad.ps_length];have:=l.len_parts;omega
  have:=key (rkT b ρ (.cons k g m r));rw [e1,Nat.mul_add,Nat.mul_add,Nat.mul_one] at s1;exact Yb (Yb this s1) (by omega)
theorem rk_fitL {P D x:Nat} (hk:∀ n ∈ ns,n ∈ b.names/\ρ n ≠ .nil/\(ρ n).parts<=P/\(ρ n).deep<=D/\(ρ n).Ok (2 ^ x)) (hP:1<=P):∀ {g:Gr},Named ns g->g.Ok (2 ^ 2100)->P*g.parts<=890000->D+g.deep<=29->x+2102*g.parts<=400000->FitL b ρ ns g
 | .nil,_,_,_,_,_=>trivial
 | .cons k g m r,h,ho,hp,hd,hx=>by
  have hP':∀ n ∈ ns,(ρ n).parts<=P/\(ρ n).deep<=D:=fun n hn=>⟨(hk n hn).2.2.1,(hk n hn).2.2.2.1⟩;have hX':∀ n ∈ ns,(ρ n).Ok (2 ^ x):=fun n hn=>(hk n hn).2.2.2.2;have nm:2 ^ 2100<=(2:Int) ^ 400000:=z04 (by decide);obtain ⟨hkn,hnn⟩:k ∈ ns/\(Named ns g/\Named ns r):=⟨h ((k,g),m) (mcs ..),fun x hx=>h x (mcm _ (mal _ hx)),fun x hx=>h x (mcm _ (mar _ hx))⟩;obtain ⟨ok0,hg,hm1,hm2,hr,hrise⟩:=ho;have ho:(Gr.cons k g m r).Ok (2 ^ 2100):=⟨ok0,hg,hm1,hm2,hr,hrise⟩;have e1:(Gr.cons k g m r).parts=1+g.parts+r.parts:=rfl;have e2:(Gr.cons k g m r).deep=max (1+g.deep) r.deep:=rfl;rw [e1,Nat.mul_add,Nat.mul_add,Nat.mul_one] at hp;rw [e1] at hx;obtain ⟨s1,s2⟩:=rk_size hP' h;obtain ⟨g1,g2⟩:=rk_size hP' hnn.1;obtain ⟨n1,n2⟩:=rk_numsV hX' hnn.1 hg;have p0:=z06 (x+2102*g.parts);have px:=z06 x;have io:(Lad.bths (rkT b ρ g)).Ok (2 ^ (x+2102*g.parts)):=Lad.bths_ok n1 (by omega) (Int.le_refl _) n2;have lo:=(Lad.lad_ok (w:=b.wide k) (hX' k hkn) io px p0);have m1:=z04 (show x<=x+2102*g.parts by omega);have m2:=z04 (show x+2102*g.parts+1<=400000 by omega);have m3:=z0o (x+2102*g.parts);obtain ⟨kb,kne,kp,kd,kx⟩:=hk k hkn;have num:∀ {l:Lad},l.Ok (2 ^ 400000)->∀ p ∈ l.ps,0<=p.2/\p.2 < 2 ^ 400000:=fun hl p hp=>by
   have:=(Lad.ok_iff.mp hl).1 p hp;exact ⟨by omega,this.2.2⟩
  have ip:(Lad.bths (rkT b ρ g)).parts<=P*g.parts:=Yb (Lad.bths_parts _) g1;have idp:(Lad.bths (rkT b ρ g)).deep<=D+g.deep:=Lad.bths_deep g2;have lp:=Lad.lad_parts (b.wide k) (ρ k) (Lad.bths (rkT b ρ g));have ld:=Lad.lad_deep (w:=b.wide k) (o:=ρ k) (l:=Lad.bths (rkT b ρ g)) (n:=D+g.deep) (by omega) idp;refine ⟨⟨hkn,kb,kne,⟨by omega,by omega,num (kx.mono (by omega))⟩,⟨by show (Lad.bths (rkT b ρ g)).deep<=30; omega,by show (Lad.bths (rkT b ρ g)).parts<=900000; omega,num (io.mono (by omega))⟩,⟨by show (lad (b.wide k) (ρ k) (Lad.bths (rkT b ρ g))).deep<=30; omega,by show (lad (b.wide k) (ρ k) (Lad.bths (rkT b ρ g))).parts<=900000; omega,num (lo.mono (by omega))⟩,by omega,by omega,?_⟩,rk_fitL hk hP hnn.1 hg (by omega) (by omega) (by omega),rk_fitL hk hP hnn.2 hr (by omega) (by omega) (by omega)⟩;rw [e1,Nat.mul_add,Nat.mul_add,Nat.mul_one] at s1;exact Yb s1 (by omega)
end Gr
theorem Lad.shaped_rowsL {bs:List (Lad × Int)} (h:∀ b ∈ bs,b.1.deep<=30):SeqAt.shaped (.list (bs.map Lad.pEnc))=true:=by
 have h1:PyData.canLayAll0 (bs.map Lad.pEnc)=true:=by
  induction bs with
  | nil=>simp [PyData.canLayAll0]
  | cons b r ih =>
   have:=ih fun c hc=>h c (mcm _ hc);rw [List.map_cons,PyData.canLayAll0,this];simp [Lad.pEnc,PyData.canLay0,PyData.canLayAll0,Lad.enc,Lad.lays]
 have h2:PyData.depthAll (bs.map Lad.pEnc)<=62:=by
  induction bs with
  | nil=>simp [PyData.depthAll]
  | cons b r ih =>
   have e1:=ih (fun c hc=>h c (mcm _ hc)) (by rw [List.map_cons,PyData.canLayAll0,Bool.and_eq_true] at h1; exact h1.2);have e2:=h b (mcs ..);have e3:=Lad.pEnc_depth b;rw [List.map_cons,PyData.depthAll];omega
 have h3:(PyData.list (bs.map Lad.pEnc)).depth=PyData.depthAll (bs.map Lad.pEnc)+1:=by simp [PyData.depth]
 unfold SeqAt.shaped;rw [PyData.canLay0,h1,Bool.true_and];exact Ya (by omega)
section
open PyProof.Rows PySem.AutoSeq1
theorem z4m (l:Addr) (items:Array Value) (n:Nat) (b:Addr) (items2:Array Value) (n2:Nat) (dd:Option Addr) (ss:Array (Option Value)) (hs0:¬(!items.isEmpty&&Builtin.List.listTooLong (items.size+items2.size))=true) (hs1:items.size<=sizeLine) (hs2:items.size+items2.size<=sizeLine+1) :
  Meets (Builtin.«list.extend» ⟨[.ref l,.ref b],[]⟩) (fun _ R s=>s.heap.get? l=some { cls:=.type "list",dict:=none,data:=.seq items n,slots:=#[] }/\s.heap.get? b=some { cls:=.type "tuple",dict:=dd,data:=.seq items2 n2,slots:=ss }/\R (.ok (.ret Value.none)) { s with heap:=s.heap.update l (Obj.mapSeq fun x=>x++items2),toks:=s.toks }) :=
 .of_wp fun prog w A R s h=>by
  obtain ⟨hp,g,d,tk,os⟩:=s; obtain ⟨hl,hb,h⟩:=h; have f1:=idx_int; have f2:=PySem.AutoSeq1.sub_tuple_tuple; have f3:=PySem.AutoSeq1.sub_list_list; have f4:=PySem.AutoSeq1.sub_tuple_list; have f5:=PySem.AutoSeq1.sub_list_tuple;
  have hz':(items++items2).size<=sizeLine+1:=by rw [Array.size_append]; exact hs2
  wp_walk using (wpAny_updateSeq hl rfl (hz:=hs1) (_hz':=hz')),wpAny_loadPart' hl,wpAny_loadPart' hb; exact ⟨_,rfl,h⟩
end
def zi9 (K:Qn):V->List V->Hp->VK->Prop:=fun x vs H Q=>∃ l b xs zs,x=.ref l/\vs=[.ref b]/\H l=some (.lst xs)/\SqT K H b zs/\xs.length+zs.length<=sizeLine/\Q .non (upd H l (.lst (xs++zs)))
theorem za5 {X:Cx}:MtM X "list.extend" (zi9 X.K):=by
 intro pins s σ H x vs v us Q I rx rv h;obtain ⟨l,b,xs,zs,rfl,rfl,hH,hB,hz,q⟩:=h;cases rx;obtain ⟨u,rfl,ru⟩:=rv.one;cases ru;obtain ⟨z,its,n,r,hl,e⟩:=I.lstM hH;obtain ⟨its2,r2,⟨⟨oc,od,oda,os⟩,e2,c2,n2,d2⟩,hz2⟩:=I.tuple hB;dsimp only at c2 d2;subst c2 d2;have hl2:=r2.length;have hsz:its.toArray.size+its2.toArray.size<=sizeLine:=by rw [List.size_toArray,List.size_toArray]; omega
 have hlong:¬ (!its.toArray.isEmpty&&Builtin.List.listTooLong (its.toArray.size+its2.toArray.size))=true:=by
  rw [notLongL hsz,Bool.and_false];exact Bool.false_ne_true
 refine call_meets PySem.F.slot_list_extend ⟨_,e,rfl⟩ PySem.F.entry_list_extend (PySem.F.args_list_extend_2 _ _)
  (z4m l its.toArray n b its2.toArray n2 od os hlong (by rw [List.size_toArray]; omega) (by omega)) ⟨e,e2,?_⟩
 refine ⟨.non,_,I.lset (its':=its++its2) hH e (by simp) (r.append r2) ?_,rfl,q⟩;rw [Yf];omega
namespace Gr
variable {b:Bk} {ρ:Str->Lad} {ns:List Str}
theorem FitL.at:∀ {g:Gr},FitL b ρ ns g->∀ p ∈ g.ps,(p.1.1 ∈ ns/\p.1.1 ∈ b.names/\ρ p.1.1 ≠ .nil/\LFitL (ρ p.1.1)/\LFitL (rk b ρ p.1.2)/\LFitL (rkt b ρ p.1)/\0<=p.2/\p.2 < 2 ^ 400000)/\FitL b ρ ns p.1.2
 | .nil,_,p,hp=>nomatch hp
 | .cons k g m r,h,p,hp=>by
  obtain ⟨⟨h1,h2,h3,h4,h5,h6,h7,h8,_⟩,hg,hr⟩:=h;rcases Qv hp with rfl | hp
  ·exact ⟨⟨h1,h2,h3,h4,h5,h6,h7,h8⟩,hg⟩
  ·exact FitL.at hr p hp
theorem FitL.sum:∀ {g:Gr},FitL b ρ ns g->((rkT b ρ g).map Lad.parts).sum<=900000
 | .nil,_=>by simp [rkT]
 | .cons k g m r,h=>h.1.2.2.2.2.2.2.2.2
theorem FitL.named:∀ {g:Gr},FitL b ρ ns g->Named ns g
 | .nil,_=>fun x hx=>nomatch hx
 | .cons k g m r,h=>by
  intro x hx;rcases Qv hx with z | hx
  ·rw [z]; exact h.1.1
  ·rcases Qw hx with hx | hx
   ·exact FitL.named h.2.1 x hx
   ·exact FitL.named h.2.2 x hx
end Gr
namespace Gr
theorem mem_within {g:Gr} {p:Tr × Int} (h:p ∈ g.ps):p ∈ g.within:=by
 rw [within_ps]; exact List.mem_flatMap.mpr ⟨p,h,mcs ..⟩
theorem within_sub {g:Gr} {p x:Tr × Int} (h:p ∈ g.ps) (hx:x ∈ p.1.2.within):x ∈ g.within:=by
 rw [within_ps]; exact List.mem_flatMap.mpr ⟨p,h,mcm _ hx⟩
end Gr
inductive z0r {α β:Type} (F:α->β->Prop):List α->List β->Prop
 | nil:z0r F [] []
 | cons {a:α} {b:β} {as:List α} {bs:List β}:F a b->z0r F as bs->z0r F (a::as) (b::bs)
namespace z0r
variable {α β:Type} {F G:α->β->Prop}
theorem length:∀ {as:List α} {bs:List β},z0r F as bs->as.length=bs.length
 | _,_,.nil=>rfl
 | _,_,.cons _ h=>by rw [Yk,Yk,h.length]
theorem mono:∀ {as:List α} {bs:List β},z0r F as bs->(∀ a b,F a b->G a b)->z0r G as bs
 | _,_,.nil,_=>.nil
 | _,_,.cons h r,g=>.cons (g _ _ h) (r.mono g)
theorem append:∀ {as as':List α} {bs bs':List β},z0r F as bs->z0r F as' bs'->z0r F (as++as') (bs++bs')
 | _,_,_,_,.nil,h=>h
 | _,_,_,_,.cons h r,g=>.cons h (r.append g)
theorem get:∀ {as:List α} {bs:List β} {i:Nat} {a:α},z0r F as bs->as[i]?=some a->∃ b,bs[i]?=some b/\F a b
 | _,_,_,_,.nil,h=>nomatch h
 | _,_,0,_,.cons h r,e=>by
  cases e;exact ⟨_,rfl,h⟩
 | _,_,i+1,_,.cons h r,e=>r.get (i:=i) e
end z0r
def KvA (K:Qn) (H:Hp) (v:V) (k:Kd):Prop:=∃ (t l:Addr) (zs:List V),v=.ref t/\SqT K H t [.bl k.w,.ref l]/\H l=some (.lst zs)/\Bears K H Ru.enc zs k.rs
def NoL (H:Hp) (ps:List Addr):Prop:=∀ a ∈ ps,∀ zs,H a ≠ some (.lst zs)
theorem NoL.nil {H:Hp}:NoL H []:=fun _ h=>nomatch h
theorem NoL.one {H:Hp} {d:Addr} {kvs:List (Key × V)} (h:H d=some (.dK kvs)):NoL H [d]:=fun a ha zs z=>by
 rw [Qy ha,h] at z; cases z
theorem KvA.sb {K:Qn} {H H':Hp} {ps:List Addr} {v:V} {k:Kd} (h:KvA K H v k) (e:SB ps H H') (hn:NoL H ps):KvA K H' v k:=by
 obtain ⟨t,l,zs,e1,e2,e3,e4⟩:=h;exact ⟨t,l,zs,e1,e.sqT e2,e.keep _ _ e3 (fun z=>hn l z zs e3),e4.sb e Ru.noList_enc⟩
abbrev nKV (ns:List Str) (us:List V):List (Key × V):=List.zipWith (fun (n:Str) (u:V)=>((Sum.inr n:Key),u)) ns us
def DkB (K:Qn) (H:Hp) (d:Addr) (b:Bk):Prop:=∃ us:List V,H d=some (.dK (nKV b.names us))/\z0r (KvA K H) us b
theorem DkB.sb {K:Qn} {H H':Hp} {ps:List Addr} {d:Addr} {b:Bk} (h:DkB K H d b) (e:SB ps H H') (hd:d ∉ ps) (hn:NoL H ps):DkB K H' d b:=by
 obtain ⟨us,h1,h2⟩:=h;exact ⟨us,e.keep _ _ h1 hd,h2.mono fun _ _ q=>q.sb e hn⟩
def DkL (K:Qn) (H:Hp) (d:Addr) (b:Bk):Prop:=∃ kvs:List (Key × V),H d=some (.dK kvs)/\∀ n kd,b.get n=some kd->∃ v,valV kvs (Sum.inr n)=some v/\KvA K H v kd
theorem DkL.sb {K:Qn} {H H':Hp} {ps:List Addr} {d:Addr} {b:Bk} (h:DkL K H d b) (e:SB ps H H') (hd:d ∉ ps) (hn:NoL H ps):DkL K H' d b:=by
 obtain ⟨kvs,h1,h2⟩:=h;exact ⟨kvs,e.keep _ _ h1 hd,fun n kd hk=>by obtain ⟨v,h3,h4⟩:=h2 n kd hk; exact ⟨v,h3,h4.sb e hn⟩⟩
theorem DkL.sb0 {K:Qn} {H H':Hp} {d:Addr} {b:Bk} (h:DkL K H d b) (e:SB [] H H'):DkL K H' d b:=h.sb e nmn NoL.nil
theorem DkL.val {K:Qn} {H:Hp} {d:Addr} {b:Bk} {n:Str} {kd:Kd} (h:DkL K H d b) (e:b.get n=some kd):∃ v,DGet H d (.str n) (some v)/\KvA K H v kd:=by
 obtain ⟨kvs,h1,h2⟩:=h;obtain ⟨v,h3,h4⟩:=h2 n kd e;exact ⟨v,getK h1 h3,h4⟩
theorem z93 {F:V->Kd->Prop} {n:Str} {kd:Kd}:∀ {b:Bk} {us:List V},z0r F us b->b.get n=some kd->∃ v,valV (nKV b.names us) (Sum.inr n)=some v/\F v kd
 | [],_,_,h=>nomatch h
 | k::r,us,hp,h=>by
  cases hp with
  | @cons u _ us' _ h1 h2 =>
  by_cases e:k.n=n
  ·have:kd=k:=by
    unfold Bk.get at h;rw [List.find?_cons_of_pos (by simpa using e)] at h;exact (Yd h).symm
   rw [this];refine ⟨u,?_,h1⟩;show valV (((Sum.inr k.n:Key),u)::_) (Sum.inr n)=some u;rw [e];simp [valV]
  ·have h':Bk.get r n=some kd:=by
    unfold Bk.get at h;rw [List.find?_cons_of_neg (by simpa using e)] at h;exact h
   obtain ⟨v,h3,h4⟩:=z93 h2 h';refine ⟨v,?_,h4⟩;show valV (((Sum.inr k.n:Key),u)::nKV (Bk.names r) us') (Sum.inr n)=some v;unfold valV;rw [List.find?_cons_of_neg (by simp only [decide_eq_true_eq]; exact fun z=>e (Sum.inr.inj z))];exact h3
def SameB (b c:Bk):Prop:=∀ n,b.get n=c.get n
theorem DkB.l {K:Qn} {H:Hp} {d:Addr} {b c:Bk} (h:DkB K H d b) (e:SameB b c):DkL K H d c:=by
 obtain ⟨us,h1,h2⟩:=h;exact ⟨_,h1,fun n kd hk=>z93 h2 ((e n).trans hk)⟩
theorem zdc {ns:List Str} {us:List V} {n:Str} {x:V} (hl:us.length=ns.length) (hn:n ∉ ns):putK (nKV ns us) (Sum.inr n) x=nKV (ns++[n]) (us++[x]):=by
 unfold nKV;rw [z26 fun p hp z=>?_,List.zipWith_append (by omega)]
 ·rfl
 ·induction ns generalizing us with
  | nil=>cases hp
  | cons m r ih =>
   cases us with
   | nil=>cases hp
   | cons u us =>
    rw [List.zipWith_cons_cons] at hp;rcases Qv hp with rfl | hp
    ·exact hn (List.mem_cons.mpr (.inl (Sum.inr.inj z).symm))
    ·exact ih (by simp at hl; omega) (fun h=>hn (mcm _ h)) hp
def PotC (H:Hp) (p c:Addr):Prop:=∃ (ns:List Int) (a l s:Int),H p=some (.dK (potK c a l s))/\H c=some (.lst (ns.map V.int))/\ns.length<=63/\0<=a/\a<=ns.length/\(0<=l/\l < 10 ^ 320)/\(0<=s/\s < 2 ^ 31)
theorem PotC.of {H:Hp} {p:Addr} (h:PotA H p):∃ c,PotC H p c:=h
theorem PotC.keep {H H':Hp} {p c:Addr} {ps:List Addr} (h:PotC H p c) (e:SB ps H H') (h1:p ∉ ps) (h2:c ∉ ps):PotC H' p c:=by
 obtain ⟨ns,a,l,s,a1,a2,a3⟩:=h;exact ⟨ns,a,l,s,e.keep _ _ a1 h1,e.keep _ _ a2 h2,a3⟩
theorem PotC.sb {H H':Hp} {p c:Addr} (h:PotC H p c) (e:SB [] H H'):PotC H' p c:=h.keep e nmn nmn
theorem PotC.ne {H:Hp} {p c q:Addr} (h:PotC H p c) (hq:H q=none):p ≠ q:=by
 obtain ⟨ns,a,l,s,a1,a2,a3⟩:=h;exact fun z=>by rw [z,hq] at a1; cases a1
theorem PotC.nc {H:Hp} {p c q:Addr} (h:PotC H p c) (hq:H q=none):c ≠ q:=by
 obtain ⟨ns,a,l,s,a1,a2,a3⟩:=h;exact fun z=>by rw [z,hq] at a2; cases a2
theorem PotC.some {H:Hp} {p c:Addr} (h:PotC H p c):∀ q ∈ [p],H q ≠ none:=by
 intro q hq;rw [Qy hq];obtain ⟨ns,a,l,s,a1,a2,a3⟩:=h;exact fun z=>by rw [z] at a1; cases a1
theorem PotC.isD {H:Hp} {p c:Addr} (h:PotC H p c):∃ kvs,H p=Option.some (.dK kvs):=by
 obtain ⟨ns,a,l,s,a1,a2,a3⟩:=h;exact ⟨_,a1⟩
def z19:Sp:=fun vs H Q _=>∃ (p cl:Addr) (m:Int),vs=[.ref p,.int m]/\PotC H p cl/\1<=m/\m < 2 ^ 2000/\∀ r H',0<=r->r < m->SB [p] H H'->PotC H' p cl->Q (.int r) H'
def z81 (K:Qn):Sp:=fun vs H Q _=>∃ (p cl:Addr) (m:Nat),vs=[.ref p,.int (m:Int)]/\PotC H p cl/\1<=m/\m<=8/\∀ (L:Addr) (ks:List Str) (H':Hp),SB [p] H H'->PotC H' p cl->H L=none->H' L=some (.lst (ks.map V.str))->ks.length=m->ks.Nodup->(∀ k ∈ ks,z03 k)->Q (.ref L) H'
def z1i (K:Qn) (n:Nat):Sp:=fun vs H Q _=>∃ (p nl cl:Addr) (ks:List Str) (m:Nat) (c:Int),vs=[.ref p,.ref nl,.int (m:Int),.int c]/\PotC H p cl/\(H nl=some (.lst (ks.map V.str))/\nl ≠ p/\ks.length<=8/\∀ k ∈ ks,z03 k)/\m < n/\m<=12/\3<=c/\c<=10 ^ 60 /\
 ∀ (v:V) (g:Gr) (H':Hp),SB [p] H H'->PotC H' p cl->GA K H' v g->g.Ok (m*c+1)->g.parts<=m->g.deep<=m->Gr.Named ks g->(1<=m->ks ≠ []->g ≠ .nil)->Q v H'
def zij (b:Bk):Prop:=∀ (i:Nat) (k:Kd),b[i]?=some k->∀ r ∈ k.rs,∀ x ∈ Ru.within r,x.1.1 ∈ Bk.names (b.take i)
structure Drawn (b:Bk) (m:Nat):Prop where
 ok:b.Ok
 len:b.length<=m
 ahead:zij b
 few:∀ k ∈ b,∀ r ∈ k.rs,r.1.parts+r.2.parts<=3
def z9f (K:Qn):Sp:=fun vs H Q _=>∃ (p cl:Addr) (m:Nat),vs=[.ref p,.int (m:Int)]/\PotC H p cl/\1<=m/\m<=6/\∀ (d:Addr) (b:Bk) (H':Hp),SB [p] H H'->PotC H' p cl->H d=none->d ≠ p->DkB K H' d b->Drawn b m->Q (.ref d) H'
def z84 (K:Qn):Sp:=fun vs H Q _=>∃ (d:Addr) (b:Bk) (t:Bool),vs=[.ref d,.bl t]/\DkB K H d b/\b.length<=100/\∀ (L:Addr) (xs:List V) (H':Hp),SB [] H H'->H L=none->H' L=some (.lst xs)->KdAll K H' [L] xs (if t=true then b.reverse else b)->Q (.ref L) H'
def z3c (K:Qn):Sp:=fun vs H Q _=>∃ (v u:V) (l k:Lad),vs=[v,u]/\LA K H v l/\LA K H u k/\l.deep<=30/\k.deep<=30/\l.parts<=4000000/\k.parts<=4000000/\∀ (x:V) (H':Hp),SB [] H H'->LA K H' x (l.bhd k)->Q x H'
def z6u (K:Qn):Sp:=fun vs H Q _=>∃ (v u:V) (l k:Lad),vs=[v,u]/\LA K H v l/\LA K H u k/\l.deep<=30/\k.deep<=30/\l.parts<=4000000/\k.parts<=4000000/\∀ (x:V) (H':Hp),SB [] H H'->LA K H' x (Lad.mrg l k)->Q x H'
def z89 (K:Qn):Sp:=fun vs H Q _=>∃ (v u:V) (l k:Lad),vs=[v,u]/\LA K H v l/\LA K H u k/\Lad.R l/\Lad.R k/\l.deep<=30/\k.deep<=30/\l.parts<=1000000/\k.parts<=1000000/\∀ (x:V) (H':Hp),SB [] H H'->LA K H' x (l.abv k)->Q x H'
theorem Lad.mrg_S:∀ (l k:Lad) (x:Lad),Lad.S (Lad.mrg l k) x=Lad.S l x+Lad.S k x
 | .nil,k,x=>by rw [Lad.mrg_nil_l]; show Lad.S k x=Lad.sumAt [] x+Lad.S k x; rw [Lad.sumAt_nil]; omega
 | .cons e m r,.nil,x=>by rw [Lad.mrg_nil_r]; show _=_+Lad.sumAt [] x; rw [Lad.sumAt_nil]; omega
 | .cons e m r,.cons f n s,x=>by
  have hc:∀ (e:Lad) (m:Int) (r:Lad),Lad.S (.cons e m r) x=(if e=x then m else 0)+Lad.S r x:=fun e m r=>Lad.sumAt_cons e m r.ps x;rw [Lad.mrg_cons]
  split
  ·rename_i h;subst h;rw [hc,hc,hc,Lad.mrg_S r s x]
   split <;> omega
  ·split
   ·rw [hc f n (Lad.mrg (.cons e m r) s),Lad.mrg_S (.cons e m r) s x,hc f n s];omega
   ·rw [hc e m (Lad.mrg r (.cons f n s)),Lad.mrg_S r (.cons f n s) x,hc e m r];omega
termination_by l k=>l.len+k.len
decreasing_by all_goals (simp only [Lad.len]; omega)
theorem Lad.mrg_bth {l k:Lad} (hl:Lad.R l) (hk:Lad.R k):Lad.mrg l k=l.bth k:=by
 have rb:=hl.bth hk;obtain ⟨B,hB,h1⟩:=hl;obtain ⟨C,hC,h2⟩:=hk;exact Lad.R.ext ⟨B+C,by omega,Lad.mrg_ok h1 h2 hB hC⟩ rb fun x=>by rw [Lad.mrg_S,Lad.S_bth]
structure LawR (b:Bk) (ρ:Str->Lad) (ns:List Str) (lv:Str->Nat):Prop extends Gr.Goods b ρ ns where
 len:ns.length<=8
 get:∀ n ∈ ns,∃ kd,b.get n=some kd
 few:∀ n ∈ ns,∀ kd,b.get n=some kd->kd.rs.length<=4
 rl:∀ n ∈ ns,∀ kd,b.get n=some kd->∀ r ∈ kd.rs,(Gr.FitL b ρ ns r.1/\LFitL (Gr.rk b ρ r.1))/\Gr.FitL b ρ ns r.2/\LFitL (Gr.rk b ρ r.2)
 fit:∀ n ∈ ns,LFitL (ρ n)
 down:∀ n ∈ ns,∀ kd,b.get n=some kd->∀ r ∈ kd.rs,∀ x ∈ Ru.within r,lv x.1.1 < lv n
 low:∀ n ∈ ns,lv n < 8
structure Memo (K:Qn) (H:Hp) (e:Addr) (ρ:Str->Lad) (ns ms:List Str):Prop where
 at_:RkD K H e ρ ms
 nd:ms.Nodup
 sub:∀ m ∈ ms,m ∈ ns
theorem Memo.sb0 {K:Qn} {H H':Hp} {e:Addr} {ρ:Str->Lad} {ns ms:List Str} (h:Memo K H e ρ ns ms) (s:SB [] H H'):Memo K H' e ρ ns ms:=⟨h.at_.sb0 s,h.nd,h.sub⟩
theorem Memo.len {K:Qn} {H:Hp} {e:Addr} {ρ:Str->Lad} {ns ms:List Str} (h:Memo K H e ρ ns ms):ms.length<=ns.length:=h.nd.length_le_of_subset h.sub
theorem Memo.isD {K:Qn} {H:Hp} {e:Addr} {ρ:Str->Lad} {ns ms:List Str} (h:Memo K H e ρ ns ms):∃ kvs,H e=some (.dK kvs):=by
 obtain ⟨⟨us,h1,_⟩,_,_⟩:=h;exact ⟨_,h1⟩
theorem Memo.put {K:Qn} {H:Hp} {e:Addr} {ρ:Str->Lad} {ns ms:List Str} {n:Str} {x:V} (h:Memo K H e ρ ns ms) (h8:ns.length<=8) (hn:n ∈ ns) (hm:n ∉ ms) (hx:LA K H x (ρ n)):∃ H',DPut H e (.str n) x H'/\SB [e] H H'/\Memo K H' e ρ ns (ms++[n]):=by
 have hl:=h.len;obtain ⟨H',h1,h2,h3⟩:=h.at_.put hm (by omega) hx;refine ⟨H',h1,h2,h3,List.nodup_append.mpr ⟨h.nd,by simp,fun a ha b hb=>?_⟩,fun m hm'=>?_⟩
 ·rw [Qy hb];exact fun z=>hm (z ▸ ha)
 ·rcases Qw hm' with z | z
  ·exact h.sub m z
  ·rw [Qy z]; exact hn
def z29 (K:Qn) (n:Nat):Sp:=fun vs H Q _=>∃ (d e:Addr) (u:V) (b:Bk) (ρ:Str->Lad) (ns ms:List Str) (lv:Str->Nat) (g:Gr) (C:Int) (c:Nat),vs=[.ref d,.ref e,u]/\DkL K H d b/\d ≠ e/\LawR b ρ ns lv/\Memo K H e ρ ns ms/\(GA K H u g/\g.Ok C/\Gr.FitL b ρ ns g/\g.deep<=16/\g.parts<=900)/\(∀ x ∈ g.within,lv x.1.1 < c)/\20*c+g.deep < n /\
 ∀ (x:V) (H':Hp) (ms':List Str),SB [e] H H'->Memo K H' e ρ ns ms'->(∀ m ∈ ms',m ∈ ms\/lv m < c)->LA K H' x (Gr.rk b ρ g)->Q x H'
def z5e (K:Qn) (n:Nat):Sp:=fun vs H Q _=>∃ (d e:Addr) (k:Str) (b:Bk) (ρ:Str->Lad) (ns ms:List Str) (lv:Str->Nat),vs=[.ref d,.ref e,.str k]/\DkL K H d b/\d ≠ e/\LawR b ρ ns lv/\Memo K H e ρ ns ms/\k ∈ ns/\20*lv k+18 < n /\
 ∀ (x:V) (H':Hp) (ms':List Str),SB [e] H H'->Memo K H' e ρ ns ms'->(∀ m ∈ ms',m ∈ ms\/lv m<=lv k)->LA K H' x (ρ k)->Q x H'
theorem zcc {P:Program} {w:World} {K:Qn} {mg:Str->Option Value} {base:Heap} {f:Addr} {fd:FuncData} {ps:List Str} {k:Nat}:FnOk P w K mg base CX0 k f fd ps (z29 K 0):=z0v fun vs H Q E ⟨_,_,_,_,_,_,_,_,_,_,_,_,_,_,_,_,_,_,h,_⟩=>by omega
theorem zbe {P:Program} {w:World} {K:Qn} {mg:Str->Option Value} {base:Heap} {f:Addr} {fd:FuncData} {ps:List Str} {k:Nat}:FnOk P w K mg base CX0 k f fd ps (z5e K 0):=z0v fun vs H Q E ⟨_,_,_,_,_,_,_,_,_,_,_,_,_,_,h,_⟩=>by omega
def z1y (K:Qn) (n:Nat):Sp:=fun vs H Q _=>∃ (d a:Addr) (u:V) (b:Bk) (g:Gr) (pl:Pl) (k:Str) (kd:Kd) (i:Nat) (r:Ru) (m C:Int),vs=[.ref d,u,.ref a,.int (i:Nat),.int m]/\DkL K H d b/\(b.Ok/\Gr.Named b.names g)/\(GA K H u g/\g.Ok C/\g.deep<=14/\g.parts<=400)/\SqT K H a (pl.map fun n:Nat=>V.int (n:Int))/\Gr.bareAt g pl=some k/\b.get k=some kd/\(noR::kd.rs)[i]?=some r/\0<=m/\m < 2 ^ 2000/\pl.length < n /\
 ∀ (x:V) (H':Hp),SB [] H H'->GA K H' x (Gr.stk b m (Gr.grw r m) pl g).1->Q x H'
def z1x (K:Qn) (n:Nat):Sp:=fun vs H Q _=>∃ (p cl:Addr) (v:V) (l:Lad) (t:Nat) (B:Int),vs=[.ref p,v,.int (t:Int)]/\PotC H p cl/\LA K H v l/\l ≠ .nil/\l.deep < n/\l.deep<=30/\(l.Ok B/\10 ^ 9 < B/\B<=2 ^ 2000)/\t<=3/\l.wid+t<=1000000/\∀ (x:V) (k:Lad) (H':Hp),SB [p] H H'->PotC H' p cl->LA K H' x k->k.deep<=l.deep->k.wid<=l.wid+t->k.Ok B->k.lt l=true->Q x H'
def z1n (K:Qn) (n:Nat):Sp:=fun vs H Q _=>∃ (v:V) (l:Lad),vs=[v]/\LA K H v l/\l.deep < n/\l.deep<=32/\∀ (d:Addr) (m:Int) (H':Hp),SB [] H H'->H d=none->H' d=some (.lst [.int (l.parts:Nat),.int (l.deep:Nat),.int m])->Q (.ref d) H'
def z6y (K:Qn):Sp:=fun vs H Q _=>∃ (p cl:Addr) (v:V) (l:Lad) (B:Int),vs=[.ref p,v]/\PotC H p cl/\LA K H v l/\l ≠ .nil/\l.deep<=29/\l.wid<=900000/\(l.Ok B/\10 ^ 9 < B/\B<=2 ^ 2000)/\∀ (x:V) (k:Lad) (H':Hp),SB [p] H H'->PotC H' p cl->LA K H' x k->k.deep<=12->k.parts<=60->k.Ok B->k.lt l=true->Q x H'
def z8p (K:Qn):Sp:=fun vs H Q _=>∃ (d p:Addr) (u y:V) (b:Bk) (ρ:Str->Lad) (ns:List Str) (lv:Str->Nat) (g:Gr) (t:Lad) (pl:Pl) (i:Nat) (r:Ru) (m C:Int),vs=[.ref d,u,.ref p,y]/\DkL K H d b/\b.Ok/\LawR b ρ ns lv/\(GA K H u g/\g.Ok C/\1<=C/\C<=2 ^ 2000/\Gr.Named ns g/\g.deep<=12/\g.parts<=60)/\(LA K H y t/\t.deep<=30)/\z5j K H p pl i m/\Gr.Reach b ρ g t pl i r m/\m < 2 ^ 2000 /\
 ((Gr.FitL b ρ ns (Gr.stk b m (Gr.grw r m) pl g).1/\LFitL (Gr.rk b ρ (Gr.stk b m (Gr.grw r m) pl g).1))/\Gr.FitL b ρ ns g/\LFitL (Gr.rk b ρ g))/\∀ H',SB [] H H'->Q (.bl true) H'
theorem SameB.rev {b:Bk} (nd:b.names.Nodup):SameB b b.reverse:=fun n=>by
 have nr:(Bk.names b.reverse).Nodup:=by
  show (b.reverse.map _).Nodup;rw [List.map_reverse]; exact (List.reverse_perm _).nodup_iff.mpr nd
 cases e:b.get n with
 | some k =>
  obtain ⟨km,kn⟩:=Bk.get_some e;have:=Bk.get_self nr (List.mem_reverse.mpr km);rw [kn] at this;exact this.symm
 | none =>
  cases e2:Bk.get b.reverse n with
  | none=>rfl
  | some k =>
   obtain ⟨km,kn⟩:=Bk.get_some e2;exact absurd (List.mem_map.mpr ⟨k,List.mem_reverse.mp km,kn⟩) (Bk.get_none e)
structure Made (c:Bk) (lv:Str->Nat):Prop where
 ok:c.Ok
 ends:∀ n ∈ c.names,EndK c n
 own:OwnR c (z01 c)
 R:∀ n ∈ c.names,EndK c n->Lad.R (z01 c n)/\z01 c n ≠ .nil
 bnd:∀ n ∈ c.names,z01 c n ≠ .nil/\(z01 c n).parts<=242/\(z01 c n).deep<=14/\(z01 c n).Ok (2 ^ 394)
 law:LawR c (z01 c) c.names lv
namespace Gr
variable {b:Bk} {ρ:Str->Lad} {ns:List Str}
theorem rk_okV {x:Nat} (hk:∀ n ∈ ns,(ρ n).Ok (2 ^ x)) {g:Gr} (hn:Named ns g) (ho:g.Ok (2 ^ 2100)):(rk b ρ g).Ok (2 ^ (x+2102*g.parts)):=by
 obtain ⟨n1,n2⟩:=rk_numsV (b:=b) hk hn ho;exact Lad.bths_ok n1 (by have:=z06 (x+2102*g.parts); omega) (Int.le_refl _) n2
theorem rk_okX {x:Nat} (hk:∀ n ∈ ns,(ρ n).Ok (2 ^ x)) {g:Gr} (hn:Named ns g) (ho:g.Ok (2 ^ 119)):(rk b ρ g).Ok (2 ^ (x+121*g.parts)):=by
 obtain ⟨n1,n2⟩:=rk_numsX (b:=b) hk hn ho;exact Lad.bths_ok n1 (by have:=z06 (x+121*g.parts); omega) (Int.le_refl _) n2
theorem rk_len {P D:Nat} (hk:∀ n ∈ ns,(ρ n).parts<=P/\(ρ n).deep<=D) {g:Gr} (hn:Named ns g):(rk b ρ g).parts<=P*g.parts/\(rk b ρ g).deep<=D+g.deep:=by
 obtain ⟨s1,s2⟩:=rk_size (b:=b) hk hn;exact ⟨Yb (Lad.bths_parts _) s1,Lad.bths_deep s2⟩
theorem named_held {g:Gr} {x:Tr × Int} (hn:Named ns g) (hx:x ∈ g.within):x.1.1 ∈ ns/\Named ns x.1.2/\x.1.2.parts<=g.parts/\x.1.2.deep<=g.deep:=by
 induction g with
 | nil=>cases hx
 | cons k g m r ih1 ih2 =>
  have h1:Named ns g:=fun y hy=>hn y (mcm _ (mal _ hy));have h2:Named ns r:=fun y hy=>hn y (mcm _ (mar _ hy));have e1:(Gr.cons k g m r).parts=1+g.parts+r.parts:=rfl;have e2:(Gr.cons k g m r).deep=max (1+g.deep) r.deep:=rfl;rcases Qv hx with rfl | hx
  ·exact ⟨hn _ (mcs ..),h1,by show g.parts<=_; omega,by show g.deep<=_; omega⟩
  ·rcases Qw hx with hx | hx
   ·obtain ⟨a,b,c,d⟩:=ih1 h1 hx; exact ⟨a,b,by omega,by omega⟩
   ·obtain ⟨a,b,c,d⟩:=ih2 h2 hx; exact ⟨a,b,by omega,by omega⟩
end Gr
theorem LFitL.of {l:Lad} {x:Nat} (hd:l.deep<=30) (hp:l.parts<=900000) (ho:l.Ok (2 ^ x)) (hx:x<=400000):LFitL l:=⟨hd,hp,fun p h=>by
 have:=(Lad.ok_iff.mp ho).1 p h;exact ⟨by omega,Int.lt_of_lt_of_le this.2.2 (z04 hx)⟩⟩
theorem LFitW.of {l:Lad} {x:Nat} (hd:l.deep<=29) (hp:l.parts<=900000) (ho:l.Ok (2 ^ x)) (hx:x<=2000):LFitW l:=⟨hd,hp,fun p h=>by
 have:=(Lad.ok_iff.mp ho).1 p h;exact ⟨by omega,Int.lt_of_lt_of_le this.2.2 (z04 hx)⟩⟩
theorem Drawn.made {b c:Bk} {m:Nat} (h:Drawn b m) (hm:m<=5) (hc:c=b\/c=b.reverse):SameB b c/\(∀ n,n ∈ c.names ↔ n ∈ b.names)/\∃ lv,Made c lv:=by
 have same:SameB b c:=by
  rcases hc with rfl | rfl
  ·exact fun _=>rfl
  ·exact SameB.rev h.ok.nd
 have mem:∀ k,k ∈ c ↔ k ∈ b:=fun k=>by
  rcases hc with rfl | rfl
  ·exact Iff.rfl
  ·exact List.mem_reverse
 have nms:∀ n,n ∈ c.names ↔ n ∈ b.names:=fun n=>by
  constructor
  ·intro z;obtain ⟨k,hk,e⟩:=Qx z;exact List.mem_map.mpr ⟨k,(mem k).mp hk,e⟩
  ·intro z;obtain ⟨k,hk,e⟩:=Qx z;exact List.mem_map.mpr ⟨k,(mem k).mpr hk,e⟩
 have len:c.length=b.length:=by
  rcases hc with rfl | rfl
  ·rfl
  ·exact List.length_reverse ..
 have ok:c.Ok:=by
  refine ⟨by have:=h.ok.pos; omega,by have:=h.ok.len; omega,?_,fun k hk=>?_⟩
  ·rcases hc with rfl | rfl
   ·exact h.ok.nd
   ·show (b.reverse.map _).Nodup;rw [List.map_reverse]; exact (List.reverse_perm _).nodup_iff.mpr h.ok.nd
  ·obtain ⟨a1,a2,a3⟩:=h.ok.kd k ((mem k).mp hk);exact ⟨a1,a2,fun r hr=>⟨(a3 r hr).1,fun p hp=>(nms _).mpr ((a3 r hr).2 p hp)⟩⟩
 let lv:Str->Nat:=fun n=>b.names.idxOf n
 have b5:b.length<=5:=by have:=h.len; omega
 have lvl:∀ n ∈ c.names,lv n < b.length:=fun n hn=>by
  have:=List.idxOf_lt_length_of_mem ((nms n).mp hn);rw [Ye] at this;exact this
 have kat:∀ n ∈ c.names,∀ kd,c.get n=some kd->b[lv n]?=some kd:=fun n hn kd e=>by
  have hn':=(nms n).mp hn;have h1:=List.getElem_idxOf (List.idxOf_lt_length_of_mem hn');have hl:lv n < b.length:=lvl n hn;rw [List.getElem_map] at h1;have h2:b.get n=some kd:=(same n).trans e;have h3:=Bk.get_self h.ok.nd (List.getElem_mem (l:=b) hl);rw [show (b[lv n]).n=n from h1,h2] at h3;rw [List.getElem?_eq_getElem hl];exact h3.symm
 have down:∀ n ∈ c.names,∀ kd,c.get n=some kd->∀ r ∈ kd.rs,∀ x ∈ Ru.within r,lv x.1.1 < lv n:=fun n hn kd e r hr x hx=>by
  have h1:=h.ahead (lv n) kd (kat n hn kd e) r hr x hx;rw [Bk.names,List.map_take] at h1;obtain ⟨j,hj,ej⟩:=List.getElem_of_mem h1;rw [List.length_take] at hj;rw [List.getElem_take] at ej;have h2:lv x.1.1<=j:=by
   rcases Nat.lt_or_ge j (lv x.1.1) with z | z
   ·have:=List.not_of_lt_findIdx (p:=fun y=>y == x.1.1) (xs:=b.names) (i:=j) z;exact absurd (by simpa using ej) (by simpa using this)
   ·exact z
  omega
 have ends:∀ n ∈ c.names,EndK c n:=by
  have main:∀ (j:Nat) (n:Str),n ∈ c.names->lv n < j->EndK c n:=by
   intro j
   induction j with
   | zero=>intro n _ h; omega
   | succ j ih =>
    intro n hn hj;obtain ⟨kd,eg⟩:=Bk.get_of hn;obtain ⟨km,kn⟩:=Bk.get_some eg;subst kn;refine .mk fun m hm=>?_;rw [z1b ok km] at hm;obtain ⟨r,hr,hm⟩:=List.mem_flatMap.mp hm;obtain ⟨x,hx,rfl⟩:=Qx hm;have h1:=down _ hn kd eg r hr x hx;exact ih _ (((ok.kd kd km).2.2 r hr).2 x hx) (by omega)
  exact fun n hn=>main _ n hn (Nat.lt_succ_self _)
 have b1:=h.ok.pos;have hb:c.length=1\/c.length=2\/c.length=3\/c.length=4\/c.length=5:=by omega
 have e9:(1000000001:Int)<=2 ^ 30:=by decide
 obtain ⟨o1,o2⟩:=zb6 ok (m:=3) (fun k hk he r hr=>⟨(ok.named hk hr).1.1.mono e9,(ok.named hk hr).1.2.1.mono e9,h.few k ((mem k).mp hk) r hr⟩) (by rcases hb with e | e | e | e | e <;> rw [e] <;> decide) (by rcases hb with e | e | e | e | e <;> rw [e] <;> decide) (by rcases hb with e | e | e | e | e <;> rw [e] <;> decide);have R:∀ n ∈ c.names,EndK c n->Lad.R (z01 c n)/\z01 c n ≠ .nil:=fun n hn he=>zdh ok he hn;have bnd:∀ n ∈ c.names,z01 c n ≠ .nil/\(z01 c n).parts<=242/\(z01 c n).deep<=14/\(z01 c n).Ok (2 ^ 394):=fun n hn=>by
  have z:=o2 n hn (ends n hn);refine ⟨z.ne,Yb z.parts ?_,Yb z.deep ?_,z.ok.mono (z04 ?_)⟩
  ·rcases hb with e | e | e | e | e <;> rw [e] <;> decide
  ·rcases hb with e | e | e | e | e <;> rw [e] <;> decide
  ·rcases hb with e | e | e | e | e <;> rw [e] <;> decide
 have sm:∀ n ∈ c.names,(z01 c n).parts<=242/\(z01 c n).deep<=14:=fun n hn=>⟨(bnd n hn).2.1,(bnd n hn).2.2.1⟩;have nu:∀ n ∈ c.names,(z01 c n).Ok (2 ^ 394):=fun n hn=>(bnd n hn).2.2.2;have g30:∀ {g:Gr},g.Ok 1000000001->Gr.Named c.names g->g.parts<=4->Gr.FitL c (z01 c) c.names g/\LFitL (Gr.rk c (z01 c) g):=fun {g} ho hn hp=>by
  have hd:=z07 g;have ho':g.Ok (2 ^ 2100):=ho.mono (Int.le_trans e9 (z04 (by decide)));have z:=Gr.rk_len (b:=c) sm hn;have zp:242*g.parts<=242*4:=Nat.mul_le_mul_left _ hp;exact ⟨Gr.rk_fitL (fun n hn=>⟨hn,bnd n hn⟩) (by decide) hn ho' (by omega) (by omega) (by omega),LFitL.of (by omega) (by omega) (Gr.rk_okV nu hn ho') (by omega)⟩
 refine ⟨same,nms,lv,ok,ends,o1,R,bnd,⟨⟨fun n hn=>R n hn (ends n hn),fun n hn kd e r hr=>?_,fun n hn kd e=>?_⟩,?_,fun n hn=>Bk.get_of hn,fun n hn kd e=>?_,fun n hn kd e r hr=>?_,fun n hn=>?_,down,fun n hn=>?_⟩⟩
 ·exact ok.named (Bk.get_some e).1 hr
 ·obtain ⟨km,rfl⟩:=Bk.get_some e;exact z2y ok km (ends _ hn)
 ·rw [Ye]; omega
 ·exact (ok.kd kd (Bk.get_some e).1).2.1
 ·obtain ⟨rok,n1,n2⟩:=ok.named (Bk.get_some e).1 hr;have rp:=rok.2.2;exact ⟨g30 rok.1 n1 (by omega),g30 rok.2.1 n2 (by omega)⟩
 ·exact LFitL.of (Yb (bnd n hn).2.2.1 (by decide)) (Yb (bnd n hn).2.1 (by decide)) (nu n hn) (by decide)
 ·have:=lvl n hn; omega
namespace Made
variable {c:Bk} {lv:Str->Nat}
structure Grv (c:Bk) (g:Gr):Prop where
 fitL:Gr.FitL c (z01 c) c.names g
 lfL:LFitL (Gr.rk c (z01 c) g)
 fitW:∀ ns,(∀ n ∈ c.names,EndK c n->n ∈ ns)->Gr.FitW c (z01 c) ns g
 lfW:LFitW (Gr.rk c (z01 c) g)
 bd:Gr.Bd c (z01 c) 4000 (2 ^ 1900) g
 ok:(Gr.rk c (z01 c) g).Ok (2 ^ 1900)
 parts:(Gr.rk c (z01 c) g).parts<=4000
 deep:(Gr.rk c (z01 c) g).deep<=26
theorem grv (M:Made c lv) {g:Gr} (ho:g.Ok (2 ^ 119)) (hn:Gr.Named c.names g) (hp:g.parts<=12) (hd:g.deep<=12):Grv c g:=by
 have sm:∀ n ∈ c.names,(z01 c n).parts<=242/\(z01 c n).deep<=14:=fun n hn=>⟨(M.bnd n hn).2.1,(M.bnd n hn).2.2.1⟩;have nu:∀ n ∈ c.names,(z01 c n).Ok (2 ^ 394):=fun n hn=>(M.bnd n hn).2.2.2;have ho':g.Ok (2 ^ 2100):=ho.mono (z04 (by decide));obtain ⟨z1,z2⟩:=Gr.rk_len (b:=c) sm hn;have oX:=Gr.rk_okX (b:=c) nu hn ho;have zp:242*g.parts<=242*12:=Nat.mul_le_mul_left _ hp;refine ⟨Gr.rk_fitL (fun n hn=>⟨hn,M.bnd n hn⟩) (by decide) hn ho' (by omega) (by omega) (by omega),LFitL.of (by omega) (by omega) oX (by omega),fun ns hs=>Gr.FitW.mono (fun n hn=>hs n hn (M.ends n hn)) (Gr.rk_fitXW (ns:=c.names) (fun n hn=>⟨hn,M.bnd n hn⟩) (by decide) hn ho (by omega) (by omega) (by omega)),LFitW.of (by omega) (by omega) oX (by omega),fun x hx=>?_,oX.mono (z04 (by omega)),by omega,by omega⟩;obtain ⟨a1,a2,a3,a4⟩:=Gr.named_held hn hx;have xo:=(z1q ho x hx).2.1;obtain ⟨y1,y2⟩:=Gr.rk_len (b:=c) sm a2;have yX:=Gr.rk_okX (b:=c) nu a2 xo;have lp:=Lad.lad_parts (c.wide x.1.1) (z01 c x.1.1) (Gr.rk c (z01 c) x.1.2);have lo:=Lad.lad_ok (w:=c.wide x.1.1) (nu _ a1) yX (z06 _) (z06 _);have yp:242*x.1.2.parts<=242*12:=Nat.mul_le_mul_left _ (by omega);have q1:=(sm _ a1).1;refine ⟨by show (lad _ _ _).parts<=4000; omega,lo.mono ?_⟩;have m1:=z04 (show 394<=1899 by decide);have m2:=z04 (show 394+121*x.1.2.parts<=1899 by omega);have m3:=z0o 1899;omega
theorem fell (M:Made c lv) {g:Gr} (ho:g.Ok (2 ^ 119)) (hn:Gr.Named c.names g) (hp:g.parts<=12) (hd:g.deep<=9) {pl:Pl} {k:Str} {kd:Kd} (hb:Gr.bareAt g pl=some k) (eg:c.get k=some kd) {r:Ru} (hr:r ∈ noR::kd.rs) {m:Int} (m0:0<=m) (mB:m < 2 ^ 2000) :
  Gr.FitL c (z01 c) c.names (Gr.stk c m (Gr.grw r m) pl g).1/\LFitL (Gr.rk c (z01 c) (Gr.stk c m (Gr.grw r m) pl g).1):=by
 have sm:∀ n ∈ c.names,(z01 c n).parts<=242/\(z01 c n).deep<=14:=fun n hn=>⟨(M.bnd n hn).2.1,(M.bnd n hn).2.2.1⟩;have nu:∀ n ∈ c.names,(z01 c n).Ok (2 ^ 394):=fun n hn=>(M.bnd n hn).2.2.2;have kns:k ∈ c.names:=Gr.bare_named hn hb;obtain ⟨rok,rn1,rn2⟩:=Gr.ru_facts M.law.toGoods kns eg hr;have go2:=Gr.grw_ok rok m0;have hF:=Int.mul_nonneg (show (0:Int)<=1000000001 by omega) m0;have io:=Gr.stk_ok (b:=c) m0 (by omega) go2 ho hb;have idp:=Gr.stk_deep (b:=c) (n:=m) (fr:=Gr.grw r m) hb;have ipp:=Gr.stk_parts (b:=c) (n:=m) (fr:=Gr.grw r m) hb;have plen:=Gr.bare_len hb;have gd2:=Gr.grw_deep rok m;have gp2:=Gr.grw_parts rok m;have ipp2:pl.length*(g.parts+1)<=9*13:=Nat.mul_le_mul (by omega) (by omega);have gn2:Gr.Named c.names (Gr.grw r m):=Gr.grw_named (fun x hx=>by
  rcases Qw hx with hx | hx
  ·exact rn1 x hx
  ·exact rn2 x hx) m
 have inm:=Gr.stk_named (b:=c) (n:=m) gn2 hb hn;have io2:(Gr.stk c m (Gr.grw r m) pl g).1.Ok (2 ^ 2100):=io.mono (by
  have e1:(2:Int) ^ 2100=2 ^ 100*2 ^ 2000:=by decide +kernel
  have e2:(2:Int) ^ 100=1267650600228229401496703205376:=by decide +kernel
  rw [e1,e2];have h1:(2:Int) ^ 119<=2 ^ 2000:=by decide +kernel
  have h2:(2:Int) ^ 31<=2 ^ 2000:=by decide +kernel
  have e31:(2:Int) ^ 31=2147483648:=by decide
  omega)
 obtain ⟨z1,z2⟩:=Gr.rk_len (b:=c) sm inm;have oV:=Gr.rk_okV (b:=c) nu inm io2;have zp:242*(Gr.stk c m (Gr.grw r m) pl g).1.parts<=242*121:=Nat.mul_le_mul_left _ (by omega);exact ⟨Gr.rk_fitL (fun n hn=>⟨hn,M.bnd n hn⟩) (by decide) inm io2 (by omega) (by omega) (by omega),LFitL.of (by omega) (by omega) oV (by omega)⟩
end Made
namespace Gr
theorem tidy_namedL {ns:List Str} {bs:List (Tr × Int)} (h:∀ p ∈ bs,p.1.1 ∈ ns/\Named ns p.1.2):Named ns (tidy bs):=named_iff.mpr fun p hp=>by
 have hp:p ∈ tdy tEnc bs:=by rw [<- ps_ofPs (tdy tEnc bs)]; exact hp
 obtain ⟨q,hq,e⟩:=z1m (enc:=tEnc) _ p hp;rw [<- e];exact h q hq
theorem tidy_neL {bs:List (Tr × Int)} (h:bs ≠ []) (pos:∀ p ∈ bs,1<=p.2):tidy bs ≠ .nil:=fun e=>by
 cases bs with
 | nil=>exact h rfl
 | cons p r =>
  have h0:tdy tEnc (p::r)=[]:=by rw [<- ps_ofPs (tdy tEnc (p::r))]; show (tidy _).ps=[]; rw [e]; rfl
  have h1:=z1w (enc:=tEnc) (p::r) p.1;rw [h0,z0f,if_pos rfl] at h1;have h2:=sumE_nonneg (bs:=r) p.1 fun q hq=>by have:=pos q (mcm _ hq); omega
  have h3:=pos p (mcs ..);simp only [sumE] at h1;omega
end Gr
theorem PotC.upd {H:Hp} {p c d:Addr} {o:HO} (h:PotC H p c) (h1:p ≠ d) (h2:c ≠ d):PotC (upd H d o) p c:=by
 obtain ⟨ns,a,l,s,a1,a2,a3⟩:=h;exact ⟨ns,a,l,s,by rw [upd_ne h1]; exact a1,by rw [upd_ne h2]; exact a2,a3⟩
theorem BkA.pot {K:Qn} {C:Addr} {H H':Hp} {v:V} {b:Bk} {p c:Addr} (h:BkA K C H v b) (hp:PotC H p c) (s:SB [p] H H'):BkA K C H' v b:=by
 obtain ⟨a,dx,d1,d2,us,rfl,h1,h2,h3,h4⟩:=h;obtain ⟨ns,at_,l,sd,a1,a2,a3⟩:=hp;have n1:a ≠ p:=fun z=>by rw [z,a1] at h1; cases h1
 have n2:d1 ≠ p:=fun z=>by
  rw [z,a1] at h2;have e:potK c at_ l sd=b.spKV:=by injection (Yd h2)
  have e2:=congrArg (fun x=>x[0]?) e;cases b with
  | nil=>cases e2
  | cons k r =>
   have e3:some ((Sum.inr "cells":Key),V.ref c)=some ((Sum.inr k.n:Key),V.bl k.w):=e2
   injection e3 with e3
   injection e3 with e4 e5
   cases e5
 have n3:d2 ≠ p:=fun z=>by
  rw [z,a1] at h3;have e:potK c at_ l sd=b.rowKV us:=by injection (Yd h3)
  cases h4 with
  | nil=>cases e
  | cons x1 r1 =>
   cases r1 with
   | nil =>
    have e2:=congrArg (fun x=>x[1]?) e;have e3:some ((Sum.inr "at":Key),V.int at_)=none:=e2;cases e3
   | cons x2 r2 =>
    have e2:=congrArg (fun x=>x[1]?) e;have e3:some ((Sum.inr "at":Key),V.int at_)=some (_,_):=e2
    injection e3 with e3
    injection e3 with e4 e5
    rw [<- e5] at x2;cases x2
 exact ⟨a,dx,d1,d2,us,rfl,s.keep _ _ h1 (by simpa using n1),s.keep _ _ h2 (by simpa using n2),s.keep _ _ h3 (by simpa using n3),h4.sb s Kd.noList_rowE⟩
def top (i:Nat):Stmt:=PySem.Challenge.pw_felltimber_k53_reaching_by_bare_trees.main.body.getD i (.Pass ⟨0,0,0,0⟩)
abbrev z5p:Stmt:=top 3
abbrev z54:Stmt:=top 4
abbrev z6b:Stmt:=top 5
abbrev z2v:Stmt:=top 6
abbrev z6h:Stmt:=top 7
abbrev z45:Stmt:=top 8
abbrev z6a:Stmt:=top 9
abbrev z5t:Stmt:=top 19
abbrev z40:Stmt:=top 20
abbrev z4c:Stmt:=top 21
abbrev z66:Stmt:=top 22
abbrev z3x:Stmt:=top 23
abbrev z6i:Stmt:=top 31
abbrev z67:Stmt:=top 32
abbrev z6p:Stmt:=top 33
abbrev z33:Stmt:=top 34
abbrev z3s:Stmt:=top 35
abbrev z3z:Stmt:=top 36
abbrev z3n:Stmt:=top 37
abbrev z5u:Stmt:=top 39
abbrev z3y:Stmt:=top 40
abbrev z57:Stmt:=top 42
abbrev z3l:Stmt:=top 43
abbrev z42:Stmt:=top 44
abbrev z49:Stmt:=top 45
abbrev z46:Stmt:=top 46
abbrev z41:Stmt:=top 47
abbrev z5x:Stmt:=top 48
abbrev z5a:Stmt:=top 50
abbrev z3m:Stmt:=top 51
abbrev z5f:Stmt:=top 52
abbrev z4d:Stmt:=top 54
abbrev z58:Stmt:=top 55
abbrev z3r:Stmt:=top 56
abbrev z4b:Stmt:=top 57
abbrev z5g:Stmt:=top 58
abbrev z68:Stmt:=top 60
abbrev z3p:Stmt:=top 61
abbrev z5m:Stmt:=top 62
abbrev z3u:Stmt:=top 64
abbrev z5h:Stmt:=top 65
abbrev z43:Stmt:=top 66
abbrev z5d:Stmt:=top 67
abbrev z60:Stmt:=top 68
abbrev z69:Stmt:=top 70
abbrev z2a:Stmt:=top 71
abbrev z6e:Stmt:=top 72
abbrev z63:Stmt:=top 73
abbrev z5o:Stmt:=top 74
abbrev z5r:Stmt:=top 75
abbrev z5q:Stmt:=top 76
abbrev z3w:Stmt:=top 77
abbrev z65:Stmt:=top 79
abbrev z5l:Stmt:=top 80
abbrev z6j:Stmt:=top 81
abbrev s_q7:Stmt:=top 82
abbrev s_q8:Stmt:=top 83
abbrev s_q6:Stmt:=top 84
abbrev z6m:Stmt:=top 85
abbrev z44:Stmt:=top 86
abbrev z5c:Stmt:=top 87
abbrev z3o:Stmt:=top 88
abbrev z28:Stmt:=top 89
abbrev z5z:Stmt:=top 90
abbrev s_q9:Stmt:=top 91
abbrev z3q:Stmt:=top 92
abbrev z62:Stmt:=top 93
abbrev z6o:Stmt:=top 94
abbrev z6q:Stmt:=top 95
abbrev z5y:Stmt:=top 96
abbrev z2d:Stmt:=top 97
abbrev s_q5:Stmt:=inClass (top 15) 0
abbrev s_q4:Stmt:=inClass (top 16) 0
abbrev s_q0:Stmt:=inClass (top 30) 0
abbrev s_q1:Stmt:=inClass (top 30) 1
abbrev s_q3:Stmt:=inClass (top 30) 2
abbrev s_q2:Stmt:=inClass (top 30) 3
def zgx:He.DefD:=⟨("is_whole",none),"is_whole","is_whole",defArgs z5p,defBody z5p,defScope z5p,[],[]⟩
def zj3:He.DefD:=⟨("is_many",none),"is_many","is_many",defArgs z54,defBody z54,defScope z54,[],[]⟩
def zjz:He.DefD:=⟨("is_name",none),"is_name","is_name",defArgs z6b,defBody z6b,defScope z6b,[],[]⟩
def zhg:He.DefD:=⟨("is_rising",none),"is_rising","is_rising",defArgs z2v,defBody z2v,defScope z2v,[],[]⟩
def zhc:He.DefD:=⟨("joined",none),"joined","joined",defArgs z6h,defBody z6h,defScope z6h,[],[]⟩
def zjy:He.DefD:=⟨("many_at",none),"many_at","many_at",defArgs z45,defBody z45,defScope z45,[],[]⟩
def zhs:He.DefD:=⟨("run_of",none),"run_of","run_of",defArgs z6a,defBody z6a,defScope z6a,[],[]⟩
def zhf:He.DefD:=⟨("is_tree",none),"is_tree","is_tree",defArgs z5t,defBody z5t,defScope z5t,[],[]⟩
def zj6:He.DefD:=⟨("is_grove",none),"is_grove","is_grove",defArgs z40,defBody z40,defScope z40,[],[]⟩
def zh4:He.DefD:=⟨("are_grove_pairs",none),"are_grove_pairs","are_grove_pairs",defArgs z4c,defBody z4c,defScope z4c,[],[]⟩
def zgv:He.DefD:=⟨("pairs_within",none),"pairs_within","pairs_within",defArgs z66,defBody z66,defScope z66,[],[]⟩
def zi6:He.DefD:=⟨("kinds_within",none),"kinds_within","kinds_within",defArgs z3x,defBody z3x,defScope z3x,[],[]⟩
def zhk:He.DefD:=⟨("rules_from_nought",none),"rules_from_nought","rules_from_nought",defArgs z6i,defBody z6i,defScope z6i,[],[]⟩
def zi5:He.DefD:=⟨("check_kind",none),"check_kind","check_kind",defArgs z67,defBody z67,defScope z67,[],[]⟩
def zh1:He.DefD:=⟨("check_kinds",none),"check_kinds","check_kinds",defArgs z6p,defBody z6p,defScope z6p,[],[]⟩
def zim:He.DefD:=⟨("are_kinds",none),"are_kinds","are_kinds",defArgs z33,defBody z33,defScope z33,[],[]⟩
def zh2:He.DefD:=⟨("is_kind",none),"is_kind","is_kind",defArgs z3s,defBody z3s,defScope z3s,[],[]⟩
def ziq:He.DefD:=⟨("is_rule",none),"is_rule","is_rule",defArgs z3z,defBody z3z,defScope z3z,[],[]⟩
def zhq:He.DefD:=⟨("is_rule_of",none),"is_rule_of","is_rule_of",defArgs z3n,defBody z3n,defScope z3n,[],[]⟩
def zjd:He.DefD:=⟨("tree_at",none),"tree_at","tree_at",defArgs z5u,defBody z5u,defScope z5u,[],[]⟩
def zju:He.DefD:=⟨("all_places",none),"all_places","all_places",defArgs z3y,defBody z3y,defScope z3y,[],[]⟩
def zht:He.DefD:=⟨("steps_of",none),"steps_of","steps_of",defArgs z57,defBody z57,defScope z57,[],[]⟩
def zi7:He.DefD:=⟨("steps_in",none),"steps_in","steps_in",defArgs z3l,defBody z3l,defScope z3l,[],[]⟩
def zj1:He.DefD:=⟨("leads",none),"leads","leads",defArgs z42,defBody z42,defScope z42,[],[]⟩
def zjj:He.DefD:=⟨("ending_kinds",none),"ending_kinds","ending_kinds",defArgs z49,defBody z49,defScope z49,[],[]⟩
def zgw:He.DefD:=⟨("lead_into",none),"lead_into","lead_into",defArgs z46,defBody z46,defScope z46,[],[]⟩
def zjf:He.DefD:=⟨("endless_kinds",none),"endless_kinds","endless_kinds",defArgs z41,defBody z41,defScope z41,[],[]⟩
def zj5:He.DefD:=⟨("check_ends",none),"check_ends","check_ends",defArgs z5x,defBody z5x,defScope z5x,[],[]⟩
def zh3:He.DefD:=⟨("number",none),"number","number",defArgs z5a,defBody z5a,defScope z5a,[],[]⟩
def zia:He.DefD:=⟨("is_less",none),"is_less","is_less",defArgs z3m,defBody z3m,defScope z3m,[],[]⟩
def zj0:He.DefD:=⟨("alike_ahead",none),"alike_ahead","alike_ahead",defArgs z5f,defBody z5f,defScope z5f,[],[]⟩
def zj7:He.DefD:=⟨("behind",none),"behind","behind",defArgs z4d,defBody z4d,defScope z4d,[],[]⟩
def zhu:He.DefD:=⟨("both",none),"both","both",defArgs z58,defBody z58,defScope z58,[],[]⟩
def zik:He.DefD:=⟨("all_together",none),"all_together","all_together",defArgs z3r,defBody z3r,defScope z3r,[],[]⟩
def zjm:He.DefD:=⟨("many_of",none),"many_of","many_of",defArgs z4b,defBody z4b,defScope z4b,[],[]⟩
def zhm:He.DefD:=⟨("rest",none),"rest","rest",defArgs z5g,defBody z5g,defScope z5g,[],[]⟩
def zh0:He.DefD:=⟨("power",none),"power","power",defArgs z68,defBody z68,defScope z68,[],[]⟩
def zja:He.DefD:=⟨("above",none),"above","above",defArgs z3p,defBody z3p,defScope z3p,[],[]⟩
def zjp:He.DefD:=⟨("spread",none),"spread","spread",defArgs z5m,defBody z5m,defScope z5m,[],[]⟩
def zh5:He.DefD:=⟨("own_ranks",none),"own_ranks","own_ranks",defArgs z3u,defBody z3u,defScope z3u,[],[]⟩
def zi2:He.DefD:=⟨("climb",none),"climb","climb",defArgs z5h,defBody z5h,defScope z5h,[],[]⟩
def zif:He.DefD:=⟨("reckoned",none),"reckoned","reckoned",defArgs z43,defBody z43,defScope z43,[],[]⟩
def zjx:He.DefD:=⟨("reckoned_tree",none),"reckoned_tree","reckoned_tree",defArgs z5d,defBody z5d,defScope z5d,[],[]⟩
def zhl:He.DefD:=⟨("laden",none),"laden","laden",defArgs z60,defBody z60,defScope z60,[],[]⟩
def zic:He.DefD:=⟨("fall_to",none),"fall_to","fall_to",defArgs z69,defBody z69,defScope z69,[],[]⟩
def zie:He.DefD:=⟨("fall_in_grove",none),"fall_in_grove","fall_in_grove",defArgs z2a,defBody z2a,defScope z2a,[],[]⟩
def zhd:He.DefD:=⟨("goal_of_one",none),"goal_of_one","goal_of_one",defArgs z6e,defBody z6e,defScope z6e,[],[]⟩
def zjo:He.DefD:=⟨("lowered",none),"lowered","lowered",defArgs z63,defBody z63,defScope z63,[],[]⟩
def zi0:He.DefD:=⟨("rest_or_nought",none),"rest_or_nought","rest_or_nought",defArgs z5o,defBody z5o,defScope z5o,[],[]⟩
def zjn:He.DefD:=⟨("fall_in_tree",none),"fall_in_tree","fall_in_tree",defArgs z5r,defBody z5r,defScope z5r,[],[]⟩
def zgt:He.DefD:=⟨("further_needed",none),"further_needed","further_needed",defArgs z5q,defBody z5q,defScope z5q,[],[]⟩
def zi1:He.DefD:=⟨("fall_of_bare",none),"fall_of_bare","fall_of_bare",defArgs z3w,defBody z3w,defScope z3w,[],[]⟩
def zji:He.DefD:=⟨("_law_pot",none),"_law_pot","_law_pot",defArgs z65,defBody z65,defScope z65,[],[]⟩
def zin:He.DefD:=⟨("_law_take",none),"_law_take","_law_take",defArgs z5l,defBody z5l,defScope z5l,[],[]⟩
def zhv:He.DefD:=⟨("_law_less",none),"_law_less","_law_less",defArgs z6j,defBody z6j,defScope z6j,[],[]⟩
def d_q7:He.DefD:=⟨("_law_behind",none),"_law_behind","_law_behind",defArgs s_q7,defBody s_q7,defScope s_q7,[],[]⟩
def d_q8:He.DefD:=⟨("_law_both",none),"_law_both","_law_both",defArgs s_q8,defBody s_q8,defScope s_q8,[],[]⟩
def d_q6:He.DefD:=⟨("_law_above",none),"_law_above","_law_above",defArgs s_q6,defBody s_q6,defScope s_q6,[],[]⟩
def zgp:He.DefD:=⟨("_law_own",none),"_law_own","_law_own",defArgs z6m,defBody z6m,defScope z6m,[],[]⟩
def zhj:He.DefD:=⟨("_law_rank",none),"_law_rank","_law_rank",defArgs z44,defBody z44,defScope z44,[],[]⟩
def zj8:He.DefD:=⟨("_law_grove_of",none),"_law_grove_of","_law_grove_of",defArgs z5c,defBody z5c,defScope z5c,[],[]⟩
def zho:He.DefD:=⟨("_law_fall",none),"_law_fall","_law_fall",defArgs z3o,defBody z3o,defScope z3o,[],[]⟩
def zgr:He.DefD:=⟨("_law_names",none),"_law_names","_law_names",defArgs z28,defBody z28,defScope z28,[],[]⟩
def zio:He.DefD:=⟨("_law_drawn_grove",none),"_law_drawn_grove","_law_drawn_grove",defArgs z5z,defBody z5z,defScope z5z,[],[]⟩
def d_q9:He.DefD:=⟨("_law_drawn_book",none),"_law_drawn_book","_law_drawn_book",defArgs s_q9,defBody s_q9,defScope s_q9,[],[]⟩
def zjq:He.DefD:=⟨("_law_kinds",none),"_law_kinds","_law_kinds",defArgs z3q,defBody z3q,defScope z3q,[],[]⟩
def zjw:He.DefD:=⟨("_law_lesser",none),"_law_lesser","_law_lesser",defArgs z62,defBody z62,defScope z62,[],[]⟩
def zii:He.DefD:=⟨("_law_sizes",none),"_law_sizes","_law_sizes",defArgs z6o,defBody z6o,defScope z6o,[],[]⟩
def zi8:He.DefD:=⟨("_law_goal_here",none),"_law_goal_here","_law_goal_here",defArgs z6q,defBody z6q,defScope z6q,[],[]⟩
def zhh:He.DefD:=⟨("_law_reaches",none),"_law_reaches","_law_reaches",defArgs z5y,defBody z5y,defScope z5y,[],[]⟩
def zd5:He.DefD:=⟨("law",none),"law","law",defArgs z2d,defBody z2d,defScope z2d,[],[]⟩
def d_q5:He.DefD:=⟨("NoKind",some "__init__"),"__init__","NoKind.__init__",defArgs s_q5,defBody s_q5,defScope s_q5,[],[]⟩
def d_q4:He.DefD:=⟨("Endless",some "__init__"),"__init__","Endless.__init__",defArgs s_q4,defBody s_q4,defScope s_q4,[],[]⟩
def d_q0:He.DefD:=⟨("Book",some "__init__"),"__init__","Book.__init__",defArgs s_q0,defBody s_q0,defScope s_q0,[],[]⟩
def d_q1:He.DefD:=⟨("Book",some "names"),"names","Book.names",defArgs s_q1,defBody s_q1,defScope s_q1,[],[]⟩
def d_q3:He.DefD:=⟨("Book",some "spreads"),"spreads","Book.spreads",defArgs s_q3,defBody s_q3,defScope s_q3,[],[]⟩
def d_q2:He.DefD:=⟨("Book",some "rules"),"rules","Book.rules",defArgs s_q2,defBody s_q2,defScope s_q2,[],[]⟩
def fn:List He.DefD:=[zgx,zj3,zjz,zhg,zhc,zjy,zhs,zhf,zj6,zh4,zgv,zi6,zhk,zi5,zh1,zim,zh2,ziq,zhq,zjd,zju,zht,zi7,zj1,zjj,zgw,zjf,zj5,zh3,zia,zj0,zj7,zhu,zik,zjm,zhm,zh0,zja,zjp,zh5,zi2,zif,zjx,zhl,zic,zie,zhd,zjo,zi0,zjn,zgt,zi1,zji,zin,zhv,d_q7,d_q8,d_q6,zgp,zhj,zj8,zho,zgr,zio,d_q9,zjq,zjw,zii,zi8,zhh,zd5,d_q5,d_q4,d_q0,d_q1,d_q3,d_q2]
def fa1:List He.Fa:=[.glo "is_whole",.glo "is_many",.glo "is_name",.glo "is_rising",.glo "joined",.glo "many_at",.glo "run_of",.glo "is_tree",.glo "is_grove",.glo "are_grove_pairs",.glo "pairs_within",.glo "kinds_within",.glo "rules_from_nought",.glo "check_kind",.glo "check_kinds",.glo "are_kinds",.glo "is_kind",.glo "is_rule",.glo "is_rule_of",.glo "tree_at",.glo "all_places",.glo "steps_of",.glo "steps_in",.glo "leads",.glo "ending_kinds",.glo "lead_into",.glo "endless_kinds",.glo "check_ends",.glo "number",.glo "is_less",.glo "alike_ahead",.glo "behind",.glo "both",.glo "all_together",.glo "many_of",.glo "rest",.glo "power",.glo "above",.glo "spread",.glo "own_ranks",.glo "climb",.glo "reckoned",.glo "reckoned_tree",.glo "laden",.glo "fall_to",.glo "fall_in_grove",.glo "goal_of_one",.glo "lowered",.glo "rest_or_nought",.glo "fall_in_tree",.glo "further_needed",.glo "fall_of_bare",.glo "_law_pot",.glo "_law_take",.glo "_law_less",.glo "_law_behind",.glo "_law_both",.glo "_law_above",.glo "_law_own",.glo "_law_rank",.glo "_law_grove_of"]
def fa2:List He.Fa:=[.glo "_law_fall",.glo "_law_names",.glo "_law_drawn_grove",.glo "_law_drawn_book",.glo "_law_kinds",.glo "_law_lesser",.glo "_law_sizes",.glo "_law_goal_here",.glo "_law_reaches",.glo "law",.free "len",.free "isinstance",.free "int",.free "bool",.free "str",.free "tuple",.free "list",.free "all",.free "zip",.free "sum",.free "max",.free "range",.free "enumerate",.free "abs",.free "sorted",.free "min",.free "reversed",.free "any",.free "set",.free "dict",.free "repr",.str "LETTERS" "abcdefghijklmnopqrstuvwxyz",.int "LONGEST_NAME" (8),.int "MOST_KINDS" (8),.int "MOST_RULES" (4),.int "MOST_RULE_PARTS" (4),.int "MOST_MANY" (1000000000),.glo "NO_GROVES",.exc "NoBook",.glo "NoBook",.exc "NoPlace",.glo "NoPlace",.exc "NoReach",.glo "NoReach",.exc "NoRest",.glo "NoRest",.glo "NoKind",.meth "NoKind" "__init__",.noat "NoKind" "kind",.glo "Endless",.meth "Endless" "__init__",.noat "Endless" "kind",.glo "Book",.cls "Book",.noat "Book" "spread_by_name",.noat "Book" "rows_by_name",.mkr "Book",.meth "Book" "names",.meth "Book" "spreads",.meth "Book" "rules"]
def fa:List He.Fa:=fa1++fa2
def exOk (K:Qn):Bool:=z9n K (He.ga K "NoKind")&&(z9n K (He.ga K "Endless")&&(no2B K (He.ga K "NO_GROVES")&&(true)))
abbrev R:PySem.W.OpenRow:=PySem.W.OpenLaw.row PySem.Challenge.rw_felltimber_k53_reaching_by_bare_trees
abbrev hk:PySem.W.Hook:=zcq 6 fa fn exOk
def ob (s:PySem.W.SharedT):AlE:=obsE 6 fa fn exOk (HandSHeadRun.getT s)
theorem ob_eq (s:PySem.W.SharedT):ob s=hk.obs s.abs:=zdi (HandSHeadRun.getT_eq s)
def loose:List PySem.Str:=(["is_whole","is_many","is_name","is_rising","joined","many_at","run_of","FellError","NoRest","NoPlace","NoBook","NoKind"]:List PySem.Str)++(["Endless","NoReach","is_tree","is_grove","are_grove_pairs","pairs_within","kinds_within","Book","rules_from_nought","check_kind","check_kinds","are_kinds"]:List PySem.Str)++(["is_kind","is_rule","is_rule_of","tree_at","all_places","steps_of","steps_in","leads","ending_kinds","lead_into","endless_kinds","check_ends"]:List PySem.Str)++(["number","is_less","alike_ahead","behind","both","all_together","many_of","rest","power","above","spread","own_ranks"]:List PySem.Str)++(["climb","reckoned","reckoned_tree","laden","fall_to","fall_in_grove","goal_of_one","lowered","rest_or_nought","fall_in_tree","further_needed","fall_of_bare"]:List PySem.Str)++(["_law_pot","_law_take","_law_less","_law_behind","_law_both","_law_above","_law_own","_law_rank","_law_grove_of","_law_fall","_law_names","_law_drawn_grove"]:List PySem.Str)++(["_law_drawn_book","_law_kinds","_law_lesser","_law_sizes","_law_goal_here","_law_reaches","LETTERS","LONGEST_NAME","MOST_KINDS","MOST_MANY","MOST_RULES","MOST_RULE_PARTS"]:List PySem.Str)++(["NO_GROVES"]:List PySem.Str)
def KTr (s:PySem.W.SharedT):Qn:=He.frG (HandSHeadRun.getT s) (He.asD (HandSHeadRun.getT s) 6)
theorem run1 (w:World) (os:PySem.OsState):(HandSHeadRun.endF (HandSHeadRun.stepQ (HandSHeadRun.denQ HandSHeadRun.tabQ) R.prog w) 9000 R.prog w os).map (fun s=>HandSHeadRun.looksF R.prog (PySem.W.boot_heap w.params) s.abs)=some true:=by
 kernel_rfl
theorem run2 (w:World) (os:PySem.OsState):(HandSHeadRun.endF (HandSHeadRun.stepQ (HandSHeadRun.denQ HandSHeadRun.tabQ) R.prog w) 9000 R.prog w os).map (fun s=>HandSHeadRun.seenQ (PySem.W.view R.prog [97]) loose (importedModules R.prog.main.body) (fun s=>xlAt (PySem.W.view R.prog [97]) [] s&&recOk R.toRowW.records s) s.abs)=some (openGood (PySem.W.view R.prog [97]) loose):=by
 kernel_rfl
theorem run3 (w:World) (os:PySem.OsState):(HandSHeadRun.endF (HandSHeadRun.stepQ (HandSHeadRun.denQ HandSHeadRun.tabQ) R.prog w) 9000 R.prog w os).map (fun s=>fa1.all fun f=>f.ok (KTr s))=some true:=by
 kernel_rfl
theorem run4 (w:World) (os:PySem.OsState):(HandSHeadRun.endF (HandSHeadRun.stepQ (HandSHeadRun.denQ HandSHeadRun.tabQ) R.prog w) 9000 R.prog w os).map (fun s=>fa2.all fun f=>f.ok (KTr s))=some true:=by
 kernel_rfl
theorem run5 (w:World) (os:PySem.OsState):(HandSHeadRun.endF (HandSHeadRun.stepQ (HandSHeadRun.denQ HandSHeadRun.tabQ) R.prog w) 9000 R.prog w os).map (fun s=>fn.all fun d=>d.ok (KTr s))=some true:=by
 kernel_rfl
theorem run6 (w:World) (os:PySem.OsState):(HandSHeadRun.endF (HandSHeadRun.stepQ (HandSHeadRun.denQ HandSHeadRun.tabQ) R.prog w) 9000 R.prog w os).map (fun s=>fn.map fun d=>He.fnW (KTr s) d.at_)=some (fn.map He.DefD.val):=by
 kernel_rfl
theorem run7 (w:World) (os:PySem.OsState):(HandSHeadRun.endF (HandSHeadRun.stepQ (HandSHeadRun.denQ HandSHeadRun.tabQ) R.prog w) 9000 R.prog w os).map (fun s=>exOk (KTr s))=some true:=by
 kernel_rfl
theorem map3 {σ α β γ:Type} {o:Option σ} {A:σ->α} {B:σ->β} {C:σ->γ} {a:α} {b:β} {c:γ} (h1:o.map A=some a) (h2:o.map B=some b) (h3:o.map C=some c):o.map (fun s=>(A s,B s,C s))=some (a,b,c):=by
 cases o with
 | none=>cases h1
 | some s=>exact congrArg some (Prod.ext (Yd h1) (Prod.ext (Yd h2) (Yd h3)))
theorem mapE {σ:Type} {o:Option σ} {f1 f2:List He.Fa} {gn:List He.DefD} {ex:Qn->Bool} (K:σ->Qn) (h1:o.map (fun s=>f1.all fun f=>f.ok (K s))=some true) (h2:o.map (fun s=>f2.all fun f=>f.ok (K s))=some true) (h3:o.map (fun s=>gn.all fun d=>d.ok (K s))=some true) (h4:o.map (fun s=>gn.map fun d=>He.fnW (K s) d.at_)=some (gn.map He.DefD.val)) (h5:o.map (fun s=>ex (K s))=some true):o.map (fun s=>(He.obsD (f1++f2) gn (K s),ex (K s)))=some (He.valD gn,true):=by
 cases o with
 | none=>cases h1
 | some s =>
  have e1:(f1.all fun f=>f.ok (K s))=true:=Yd h1;have e2:(f2.all fun f=>f.ok (K s))=true:=Yd h2;have e3:(gn.all fun d=>d.ok (K s))=true:=Yd h3;have e4:(gn.map fun d=>He.fnW (K s) d.at_)=gn.map He.DefD.val:=Yd h4;have e5:ex (K s)=true:=Yd h5;refine congrArg some (Prod.ext (Prod.ext ?_ e4) e5);show (((f1++f2).all fun f=>f.ok (K s))&&gn.all fun d=>d.ok (K s))=true;rw [List.all_append,e1,e2,e3]; rfl
theorem run (w:World):HandSHeadRun.RunEq R (PySem.W.view R.prog [97]) hk ob 9000 loose w:=by
 intro os;exact map3 (run1 w os) (run2 w os) (mapE KTr (run3 w os) (run4 w os) (run5 w os) (run6 w os) (run7 w os))
section
variable {P:Program} {w:World} {K:Qn} {mg:Str->Option Value} {base:Heap} {f:Addr} {fd:FuncData} {ps:List Addr}
theorem zfe:FnScope ["thing"] ["thing"] (defScope z5p):=⟨rfl,rfl,rfl,by decide +kernel,rfl,by decide +kernel,by decide +kernel⟩
theorem zg5 (B:BI mg) (F:Fun K "is_whole" "is_whole" z5p f fd):FnOk P w K mg base CX0 1 f fd ["thing"] (z70 K):=by
 refine F.ok zfe (fun vs H Q E h=>?_) (fun cdv A outer s H vs Q E hr h=>?_)
 ·obtain ⟨v,n,b1,b2,rfl,_⟩:=h
  rfl
 obtain ⟨v,n,b1,b2,rfl,ty,k1,k2,q⟩:=h;refine ⟨_,Qe (Qj (pe_and (z0w B (pv 0) B.int boot_int) (pe_one (pe_not (z0w B (pv 0) B.bool boot_bool))))),?_⟩;refine ⟨_,rfl,_,_,n,b1,rfl,ty,k1,b1,rfl,?_⟩;cases b1 with
 | false=>exact iteF q
 | true =>
  refine iteT ⟨_,rfl,_,_,n,b2,rfl,ty,k2 rfl,b2,rfl,?_⟩;exact q
end
section
variable {P:Program} {w:World} {K:Qn} {mg:Str->Option Value} {base:Heap} {f:Addr} {fd:FuncData} {ps:List Addr}
theorem zfx:FnScope ["thing"] ["thing"] (defScope z54):=⟨rfl,rfl,rfl,by decide +kernel,rfl,by decide +kernel,by decide +kernel⟩
theorem zev {ps:List Addr} (B:BI mg) (G:Got P w K mg base "is_whole" ["thing"] 1 (z70 K)) (F:Fun K "is_many" "is_many" z54 f fd):FnOk P w K mg base CX0 2 f fd ["thing"] (z5s K ps):=by
 refine F.ok zfx (fun vs H Q E h=>?_) (fun cdv A outer s H vs Q E hr h=>?_)
 ·obtain ⟨v,d,rfl,_⟩:=h
  rfl
 obtain ⟨v,d,rfl,th,q⟩:=h;refine ⟨_,Qe (Qj (pe_and (z00 G hr rfl (Qa (pv 0) Qb)) (pe_one (pe_cmpR op_ge (pv 0) Qg (nomark _))))),?_⟩;obtain ⟨n,b1,b2,ty,k1,k2,y1,y2⟩:=th.whole;refine ⟨_,rfl,v,n,b1,b2,rfl,ty,k1,k2,b1&&!b2,rfl,?_⟩;cases e:(b1&&!b2) with
 | false =>
  refine iteF ?_;rw [y2 e] at q;exact q
 | true =>
  obtain ⟨i,rfl,rfl⟩:=y1 e;exact iteT ⟨_,rfl,_,_,rfl,rfl,q⟩
end
section
variable {P:Program} {w:World} {K:Qn} {mg:Str->Option Value} {base:Heap} {f:Addr} {fd:FuncData}
theorem zgj:FnScope ["thing"] ["thing"] (defScope z6b):=⟨rfl,rfl,rfl,by decide +kernel,rfl,by decide +kernel,by decide +kernel⟩
theorem zfj (B:BI mg) (L:∃ t,mg "LETTERS"=some (.str abc t)) (N:∃ t,mg "LONGEST_NAME"=some (.int 8 t)) (G:Got P w K mg base "run_of" ["text","at","signs"] 1 (z9c K)) (F:Fun K "is_name" "is_name" z6b f fd):FnOk P w K mg base CX0 2 f fd ["thing"] (z87 K):=by
 refine F.ok zgj (fun vs H Q E h=>?_) (fun cdv A outer s H vs Q E hr h=>?_)
 ·obtain ⟨v,d,rfl,_⟩:=h
  rfl
 obtain ⟨v,d,rfl,th,q⟩:=h;obtain ⟨tl,hL⟩:=L;obtain ⟨tn,hN⟩:=N;refine ⟨_,Qc (Qr (PW.pt (pw_or (Qp (Qo (z0w B (pv 0) B.str boot_str))) (pw_or1 (Qp (pt_chain op_le op_le Qg (Qs call_len_str rfl B.len PySem.boot_len (Qa (pv 0) Qb)) (pe_glob (v:=.int 8) rfl hN ⟨_,rfl⟩)))))) (Qe (Qj pe_bl)) pss_nil)
  (Qe (Qj (pe_cmpR op_eq (z00 G hr rfl (Qa (pv 0) (Qa Qg (Qa (pe_glob (v:=.str abc) rfl hL ⟨_,rfl⟩) Qb)))) (pv 0) (nomark _)))),?_⟩
 obtain ⟨n1,b,ty,kb,y1,y2⟩:=th.txt;refine ⟨_,rfl,_,_,n1,b,rfl,ty,kb,b,rfl,?_⟩;cases b with
 | false =>
  refine iteT (iteT ?_);have e:z1a d=false:=by
   cases d with
   | str z=>exact absurd rfl (y2 rfl z)
   | _=>simp [z1a]
  have:=q H SB.refl;rw [e] at this;exact this
 | true =>
 refine iteF ?_;obtain ⟨z,rfl,rfl,hz⟩:=y1 rfl;have hzl:z.length<=sizeLine:=by have:=sizeLine_eq; omega
 refine ⟨_,rfl,z,rfl,hzl,_,_,rfl,rfl,_,rfl,?_⟩;by_cases h1:1<=z.length
 ·rw [show decide ((1:Int)<=(z.length:Int))=true from Ya (by omega)];refine iteT ⟨_,_,rfl,rfl,_,rfl,?_⟩;by_cases h8:z.length<=8
  ·rw [show decide ((z.length:Int)<=8)=true from Ya (by omega)];refine iteF ?_;refine ⟨_,rfl,z,abc,0,rfl,by omega,Nat.zero_le _,fun e _ he hin hout=>?_⟩;refine ⟨_,rfl,rfl,?_⟩;have:=q H SB.refl;rw [<- zcf h1 h8 he hin hout] at this;exact this
  ·rw [show decide ((z.length:Int)<=8)=false from Qz (by omega)];have:=q H SB.refl;rw [z8q fun h=>h8 h.2] at this;exact iteT this
 ·rw [show decide ((1:Int)<=(z.length:Int))=false from Qz (by omega)];have:=q H SB.refl;rw [z8q fun h=>h1 h.1] at this;exact iteF ⟨_,rfl,iteT this⟩
end
section
variable {P:Program} {w:World} {K:Qn} {mg:Str->Option Value} {base:Heap} {f:Addr} {fd:FuncData} {ps:List Addr}
theorem sc_q49:FnScope z85 ["things"] (defScope z2v):=⟨rfl,rfl,rfl,by decide +kernel,rfl,by decide +kernel,by decide +kernel⟩
theorem ze1 (B:BI mg) (F:Fun K "is_rising" "is_rising" z2v f fd):FnOk P w K mg base CX0 1 f fd ["things"] (z7u K):=by
 refine F.ok sc_q49 (fun vs H Q E h=>?_) (fun cdv A outer s H vs Q E hr h=>?_)
 ·obtain ⟨v,n,b1,rfl,_⟩:=h
  rfl
 obtain ⟨a,xs,ds,rfl,hS,hDp,hok,hal,hz,q⟩:=h;have hu:A.units+200 < cLine:=by have:=hr.un; show A.units+200 < cLine; have h3:(A.deeper (envOfC "is_rising" (defScope z2v) s.heap.objs.size f cdv)).units=A.units+3:=rfl; omega
 refine ⟨_,Qe (Qj (Qs (cr_all rfl) rfl B.all boot_all (Qa
  (pe_lc (own:=[("low",1),("high",2)]) (g:=gTup K 2 (gCons (gName 1) (gCons (gName 2) gNil))) (tt:=tYes) (te:=tOp (rLtD K) (tVar 1) (tVar 2)) rfl sc_q49.nd
   (pi_zip rfl B.zip (Qa (pv 0) (Qa (pe_slice sl_list (pv 0) (po_some Qg) po_none) Qb)))
   (blkOk_by (N:=z85) (sc:=defScope z2v) (by decide +kernel))
   (fun _ _ _ _ _=>pg_tup rfl (Qi (pg_name (i:=1) sc_q49.nd rfl (.inl rfl)) (Qi (pg_name (i:=2) sc_q49.nd rfl (.inl rfl)) pgs_nil)))
   (fun _ _ _ _ _=>pts_nil)
   (fun _ _ _ _ _=>pe_cmpR (zb1 (by have:=hu; show A.units+3+100 < cLine; omega)) (pv 1) (pv 2) (nomark _))) Qb))),?_⟩
 refine ⟨_,rfl,_,rfl,1,rfl,a,xs,rfl,hS,fun p hp=>?_⟩;rw [cut1];have e1:SB [] H (upd H p (.lst (xs.drop 1))):=SB.new hp _;refine ⟨a,p,xs,xs.drop 1,rfl,e1.sqL nmn hS,SqL.of Qt,fun D hD=>?_⟩;have hpD:p ≠ D:=fun z=>by subst z; rw [Qt] at hD; cases hD
 have dl:ds.length=xs.length:=(DpAll.length hDp).symm;refine lc_it (walk_zip (n:=min xs.length (xs.drop 1).length) rfl) (fun i H2=>SB [D] (upd H p (.lst (xs.drop 1))) H2/\H2 D=some (.lst (((ltsD ds).take i).map V.bl))) ⟨SB.new hD _,Qt⟩ (fun i H2 hi h2=>?_) (fun i x H2 H' hi h2 y=>?_) (fun H2 h2=>?_)
 ·obtain ⟨h2,h3⟩:=h2;have h4:=h2.drop hD;exact ⟨(e1.trans h4).sqL nmn hS,h4.sqL nmn (SqL.of Qt)⟩
 ·obtain ⟨h2,h3⟩:=h2;have h4:=e1.trans (h2.drop hD);obtain ⟨T,x1,y1,rfl,hT,rfl,ex,ey⟩:=y;have ey:(xs.drop 1)[i]?=some y1:=ey;rw [List.getElem?_drop,Nat.add_comm] at ey;obtain ⟨d,ed,hd⟩:=DpAll.get hDp ex;obtain ⟨d',ed',hd'⟩:=DpAll.get (i:=i+1) hDp ey;have e5:SB [] H (upd H2 T (.tup [x1,y1])):=h4.trans (SB.new hT _);have m1:=Qu ed;have m2:=Qu ed';have hTD:D ≠ T:=fun z=>by subst z; rw [h3] at hT; cases hT
  refine ⟨T,_,rfl,SqT.of Qt,rfl,_,_,rfl,_,_,rfl,rfl,rfl,?_⟩;refine ⟨_,rfl,_,rfl,d,d',z0a e5 _ _ (hok d m1).1 hd,z0a e5 _ _ (hok d' m2).1 hd',hal d m1 d' m2,(hok d m1).2.1,(hok d m1).2.2,_,by rw [upd_ne hTD]; exact h3,?_,?_⟩
  ·have:=z2f ds;rw [Ye,List.length_take];exact z0j (by omega)
  ·refine ⟨(h2.trans (SB.new hT _)).trans (SB.set (by rw [upd_ne hTD]; exact h3) (by simp) _),?_⟩;rw [Qt,Yg,z7w ds i d d' ed ed'];simp
 ·obtain ⟨h2,h3⟩:=h2;have h4:=e1.trans (h2.drop hD);have e6:(ltsD ds).take (min xs.length (xs.drop 1).length)=ltsD ds:=by
   apply List.take_of_length_le;rw [z2f,List.length_drop];omega
  rw [e6] at h3;exact ⟨D,_,rfl,SqL.of h3,q _ h4⟩
end
section
variable {P:Program} {w:World} {K:Qn} {mg:Str->Option Value} {base:Heap} {f:Addr} {fd:FuncData}
abbrev zis:List Str:=["pairs","row","thing","many"]
theorem sc_q54:FnScope zis ["pairs"] (defScope z6h):=⟨rfl,rfl,rfl,by decide +kernel,rfl,by decide +kernel,by decide +kernel⟩
theorem zaq {γ:Type} [DecidableEq γ] {enc:γ->PyData} (hnl:∀ g,z09 (enc g)=true) (heq:∀ g h,PyData.eqv (enc g) (enc h)=decide (g=h)) (B:BI mg) (F:Fun K "joined" "joined" z6h f fd):FnOk P w K mg base CX0 1 f fd ["pairs"] (z7x K enc):=by
 refine F.ok sc_q54 (fun vs H Q E h=>?_) (fun cdv A outer s H vs Q E hr h=>?_)
 ·obtain ⟨a,xs,bs,rfl,_⟩:=h
  rfl
 obtain ⟨a,xs,bs,rfl,hs,hb,hl,hsh,q⟩:=h;have hun2:=hunT hr;refine ⟨_,Qc (ps_set (i:=1) sc_q54.nd rfl (.inl rfl) (pe_lst Qb))
  (Qc (ps_for PassesOwn.never rfl (pi_list (pv 0)) (pg_tup rfl (Qi (pg_name (i:=2) sc_q54.nd rfl (.inl rfl)) (Qi (pg_name (i:=3) sc_q54.nd rfl (.inl rfl)) pgs_nil)))
   (Qe (Qr (PW.pt (pw_and (pt_truth (pv 1) (by intro _; rfl)) (pw_and1 (pt_cmpR (op_eqD (by show A.units+3+64 < cLine; omega)) (Qm Ql (Qm ix_list (pv 1) (pe_un un_neg Qg) (fun _ _=>rfl)) Qg (fun _ _=>rfl)) (pv 2) (nomark _)))))
    (Qe (ps_asg (pe_tup (Qa (pv 2) (Qa (pe_op op_add (Qm Ql (Qm ix_list (pv 1) (pe_un un_neg Qg) (fun _ _=>rfl)) Qg (fun _ _=>rfl)) (pv 3)) Qb))) (pg_sub (pv 1) (pe_un un_neg Qg) set_list)))
    (Qe (ps_expr (pe_bm PySem.F.plainAttrs_list PySem.F.slot_list_append PySem.F.type_list_append mt_append (pv 1) (Qa (pe_tup (Qa (pv 2) (Qa (pv 3) Qb))) Qb)))))))
  (Qe (Qj (pe_callTy call_tuple_of rfl B.tuple boot_tuple (Qa (pv 1) Qb))))),?_⟩
 refine ⟨(by show 0<=sizeLine; decide),fun D hD=>?_⟩;have t0:=SB.new (ps:=[]) hD (.lst []);refine ⟨_,rfl,a,rfl,⟨xs,t0.sqL nmn hs⟩,?_⟩;have xl:=hb.length;refine for_list (K:=K) (a:=a) (xs:=xs) (fun i σ H2=>SB [D] H H2/\∃ acc o2 o3,σ=[some (.ref a),some (.ref D),o2,o3]/\H2 D=some (.lst acc)/\Bears K H2 (z0p enc) acc (jn (bs.take i))) ⟨SB.new hD _,[],none,none,rfl,Qt,.nil⟩ (fun i σ H2 hi h2=>(h2.1.drop hD).sqL nmn hs) (fun i x σ H2 hx h2=>?_) (fun σ H2 h2=>?_)
 ·obtain ⟨s2,acc,o2,o3,rfl,hD2,hb2⟩:=h2;have s2':=s2.drop hD;obtain ⟨p,ep,hpd⟩:=hb.get hx;have pm:=Qu ep;obtain ⟨ad,ux,rfl,hsx,hdx⟩:=z9k hpd;have al:=hb2.length;have jl:=z7l (bs.take i);rw [List.length_take] at jl;have nl:=z38 hnl;rw [z9e bs i p ep];have hdx2:=z0a s2' _ _ (hnl _) hdx;refine ⟨ad,_,rfl,s2'.sqT hsx,rfl,_,_,rfl,_,_,rfl,rfl,?_⟩
  -- the row ahead: none,or a last one
  have app:z08 (jn (bs.take i)) p=jn (bs.take i)++[p]->tDrop (tBM K "list" rAppend (tVar 1) (tCons (tTup (tCons (tVar 2) (tCons (tVar 3) tNil))) tNil)) { nx:=fun σ H2=>SB [D] H H2/\∃ acc o2 o3,σ=[some (.ref a),some (.ref D),o2,o3]/\H2 D=some (.lst acc)/\Bears K H2 (z0p enc) acc (z08 (jn (bs.take i)) p),rt:=Q } [some (.ref a),some (.ref D),some ux,some (.int p.2)] H2:=by
   intro e;rw [e];refine ⟨_,rfl,.inl ⟨rfl,_,SqL.of hD2⟩,_,rfl,_,rfl,(by show 2<=sizeLine; decide),fun t ht=>?_⟩;have t3:=SB.new (ps:=[D]) ht (.tup [ux,.int p.2]);have hD3:(upd H2 t (.tup [ux,.int p.2])) D=some (.lst acc):=by rw [upd_ne (ne_of_none hD2 ht)]; exact hD2
   refine ⟨D,acc,_,rfl,rfl,hD3,z0j (by omega),?_⟩;have t4:=SB.set (ps:=[D]) hD3 (by simp) (.lst (acc++[.ref t]));exact ⟨(s2.trans t3).trans t4,_,_,_,rfl,Qt,Bears.append ((hb2.sb t3 nl).sb t4 nl) (.cons (z99 (t4.sqT (SqT.of Qt)) (z0a t4 _ _ (hnl _) (z0a t3 _ _ (hnl _) hdx2))) .nil)⟩
  rcases List.eq_nil_or_concat (jn (bs.take i)) with he | ⟨js,z,he⟩
  ·rw [he] at hb2 app;cases hb2;refine ⟨_,rfl,_,.inl ⟨[],SqL.of hD2,rfl⟩,iteF (iteF ?_)⟩;rw [he];exact app rfl
  ·rw [List.concat_eq_append] at he;rw [he] at hb2 app;rw [he];obtain ⟨us,u,rfl,hus,hu⟩:=hb2.snoc;obtain ⟨az,uz,rfl,hsz,hdz⟩:=z9k hu;have zsh:SeqAt.shaped (enc z.1)=true:=by
    obtain ⟨q2,hq2,eq2⟩:=z1h (bs.take i) z (by rw [he]; simp);rw [<- eq2];exact hsh q2 (List.mem_of_mem_take hq2)
   refine ⟨_,rfl,_,.inl ⟨us++[.ref az],SqL.of hD2,rfl⟩,?_⟩;have e0:(!(us++[V.ref az]).isEmpty)=true:=by simp
   rw [e0];refine iteT ?_;refine ⟨_,rfl,1,rfl,D,_,_,_,rfl,rfl,SqL.of hD2,z1t,az,_,_,_,rfl,rfl,hsz,atI_nat (j:=0) rfl,_,rfl,enc z.1,enc p.1,hdz,hdx2,zsh,hsh p pm,_,rfl,?_⟩;rw [heq];by_cases hz:z.1=p.1
   ·rw [show decide (z.1=p.1)=true by simp [hz]];refine iteT ?_;refine ⟨_,rfl,_,rfl,1,rfl,D,_,_,_,rfl,rfl,SqL.of hD2,z1t,az,_,_,_,rfl,rfl,hsz,atI_nat (j:=1) rfl,_,rfl,_,_,rfl,rfl,(by show 2<=sizeLine; decide),fun t ht=>?_⟩;have t3:=SB.new (ps:=[D]) ht (.tup [ux,.int (z.2+p.2)]);have hD3:(upd H2 t (.tup [ux,.int (z.2+p.2)])) D=some (.lst (us++[.ref az])):=by rw [upd_ne (ne_of_none hD2 ht)]; exact hD2
    refine ⟨_,rfl,1,rfl,D,_,_,us.length,rfl,rfl,hD3,zbk,?_⟩;rw [zc2];have t4:=SB.set (ps:=[D]) hD3 (by simp) (.lst (us++[.ref t]));refine ⟨(s2.trans t3).trans t4,_,_,_,rfl,Qt,?_⟩;rw [z0d,if_pos hz];exact Bears.append ((hus.sb t3 nl).sb t4 nl) (.cons (z99 (t4.sqT (SqT.of Qt)) (z0a t4 _ _ (hnl _) (z0a t3 _ _ (hnl _) hdx2))) .nil)
   ·rw [show decide (z.1=p.1)=false by simp [hz]];refine iteF ?_;exact app (by rw [z0d,if_neg hz])
 ·obtain ⟨s2,acc,o2,o3,rfl,hD2,hb2⟩:=h2;rw [xl,Yh] at hb2;refine ⟨_,rfl,D,acc,rfl,.inl ⟨SqL.of hD2,fun t ht=>?_⟩⟩;have t3:=SB.new (ps:=[]) ht (.tup acc);exact q _ _ _ ((s2.drop hD).trans t3) (SqT.of Qt) (hb2.sb t3 (z38 hnl))
abbrev z8b:List Str:=["pairs","thing","other","many"]
theorem sc_q61:FnScope z8b ["pairs","thing"] (defScope z45):=⟨rfl,rfl,rfl,by decide +kernel,rfl,by decide +kernel,by decide +kernel⟩
theorem zew (B:BI mg) (F:Fun K "many_at" "many_at" z45 f fd):FnOk P w K mg base CX0 1 f fd ["pairs","thing"] (z52 K):=by
 refine F.ok sc_q61 (fun vs H Q E h=>?_) (fun cdv A outer s H vs Q E hr h=>?_)
 ·obtain ⟨v,u,l,e,rfl,_⟩:=h
  rfl
 obtain ⟨v,u,l,e,rfl,hv,hu,hd,hd2,hp,q⟩:=h;have hun2:=hunT hr;refine ⟨_,Qe (Qj (Qs (cr_sum rfl) rfl B.sum boot_sum (Qa
  (pe_lc (own:=[("other",2),("many",3)]) (g:=gTup K 2 (gCons (gName 2) (gCons (gName 3) gNil))) (tt:=tTest (tOp (rEqD K) (tVar 2) (tVar 1))) (te:=tVar 3) rfl sc_q61.nd (pi_tup (pv 0))
   (blkOk_by (N:=z8b) (sc:=defScope z45) (by decide +kernel))
   (fun _ _ _ _ _=>pg_tup rfl (Qi (pg_name (i:=2) sc_q61.nd rfl (.inl rfl)) (Qi (pg_name (i:=3) sc_q61.nd rfl (.inl rfl)) pgs_nil)))
   (fun _ _ _ _ _=>pts_one (pt_cmpR (op_eqD (by show A.units+3+64 < cLine; omega)) (pv 2) (pv 1) (nomark _)))
   (fun _ _ _ _ _=>pv 3)) Qb))),?_⟩
 obtain ⟨a,xs,rfl,hs,hb⟩:=z05 hv;have bl:=hb.length;have lp:=l.len_parts;rw [<- Lad.ps_length] at lp;refine ⟨_,rfl,a,rfl,⟨xs,hs⟩,fun D hD=>?_⟩;refine lc_it (walk_tup (xs:=xs)) (fun i H2=>SB [D] H H2/\H2 D=some (.lst ((((l.ps.take i).filter fun p=>decide (p.1=e)).map (·.2)).map V.int))) ⟨SB.new hD _,Qt⟩ (fun i H2 hi h2=>(h2.1.drop hD).sqT hs) (fun i x H2 H' hi h2 y=>?_) (fun H2 h2=>?_)
 ·obtain ⟨s2,hD2⟩:=h2;obtain ⟨rfl,ex⟩:=y;have s2':=s2.drop hD;obtain ⟨b,eb,hbd⟩:=hb.get ex;obtain ⟨ad,ux,rfl,hs2,hla⟩:=z0b hbd;have bd:=l.mem_deep b (Qu eb);refine ⟨ad,_,rfl,s2'.sqT hs2,rfl,_,_,rfl,_,_,rfl,rfl,rfl,?_⟩;refine ⟨_,rfl,_,rfl,b.1.enc,e.enc,hla.sb s2',hu.sb s2',Lad.shaped_enc (by omega),Lad.shaped_enc (by omega),_,rfl,?_⟩;rw [Lad.eqv_enc];have fl:=List.length_filter_le (fun p:Lad × Int=>decide (p.1=e)) (l.ps.take i);rw [List.length_take] at fl;by_cases he:b.1=e
  ·rw [show decide (b.1=e)=true by simp [he]];refine iteT ?_;refine ⟨_,rfl,_,hD2,?_,?_⟩
   ·rw [Ye,Ye]; exact z0j (by omega)
   ·refine ⟨s2.trans (SB.set hD2 (by simp) _),?_⟩;rw [Qt,Yg,eb,List.filter_append];simp [he]
  ·rw [show decide (b.1=e)=false by simp [he]];refine iteF ?_;refine ⟨s2,?_⟩;rw [hD2,Yg,eb,List.filter_append];simp [he]
 ·obtain ⟨s2,hD2⟩:=h2;rw [bl,Yh] at hD2;exact ⟨D,_,rfl,SqL.of hD2,q _ (s2.drop hD)⟩
theorem sc_q72:FnScope ["text","at","signs","end"] ["text","at","signs"] (defScope z6a):=⟨rfl,rfl,rfl,by decide +kernel,rfl,by decide +kernel,by decide +kernel⟩
theorem zfk (B:BI mg) (F:Fun K "run_of" "run_of" z6a f fd):FnOk P w K mg base CX0 1 f fd ["text","at","signs"] (z9c K):=by
 refine F.ok sc_q72 (fun vs H Q E h=>?_) (fun cdv A outer s H vs Q E hr h=>?_)
 ·obtain ⟨z,y,k,rfl,_⟩:=h
  rfl
 obtain ⟨z,y,k,rfl,hz,hk,q⟩:=h;refine ⟨_,Qc (ps_set (i:=3) sc_q72.nd rfl (.inl rfl) (pv 1))
  (Qc (ps_while PassesOwn.never (PW.pt (pw_and (pt_cmpR op_lt (pv 3) (Qs call_len_str rfl B.len PySem.boot_len (Qa (pv 0) Qb)) (nomark _)) (pw_and1 (pt_cmpR op_in_sign (Qm ix_str (pv 0) (pv 3) (fun _ _=>rfl)) (pv 2) (by rfl)))))
   (Qe (ps_aug (i:=3) sc_q72.nd rfl (.inl rfl) Qg ip_add)))
  (Qe (Qj (pe_slice sl_str (pv 0) (po_some (pv 1)) (po_some (pv 3)))))),?_⟩
 have hzl:z.length<=sizeLine:=by have:=sizeLine_eq; omega
 have hl:=z48 z;refine ⟨_,rfl,?_⟩;refine ⟨fun mm σ H2=>∃ e:Nat,mm=z.length-e/\H2=H/\σ=[some (.str z),some (.int (k:Int)),some (.str y),some (.int (e:Int))]/\k<=e/\e<=z.length/\(∀ j c,k<=j->j < e->z.cps.toList[j]?=some c->c ∈ y.cps.toList),⟨_,k,rfl,rfl,rfl,Yc _,hk,fun j c h1 h2 _=>by omega⟩,fun mm σ H2 h2=>?_⟩;obtain ⟨e,rfl,rfl,rfl,ke,el,hin⟩:=h2;refine ⟨_,rfl,_,rfl,z,rfl,hzl,_,_,rfl,rfl,_,rfl,?_⟩;have fin:(∀ c,z.cps.toList[e]?=some c->c ∉ y.cps.toList)->Q (.str (cutS z (some (k:Int)) (some (e:Int)))) H2:=fun ho=>q e ke el hin ho;by_cases hlt:e < z.length
 ·rw [show decide ((e:Int) < (z.length:Int))=true from Ya (by omega)];refine iteT ?_;obtain ⟨c,hc⟩:∃ c,z.cps.toList[e]?=some c:=⟨_,List.getElem?_eq_getElem (by omega)⟩;refine ⟨_,rfl,_,rfl,z,_,c,rfl,rfl,hzl,z32 hc,_,rfl,c,y,rfl,rfl,_,rfl,?_⟩;by_cases hm:c ∈ y.cps.toList
  ·rw [Ya hm];refine iteT ?_;refine ⟨_,fun σ' H' z=>z,?_⟩;refine ⟨_,rfl,_,_,rfl,rfl,z.length-(e+1),by omega,e+1,rfl,rfl,rfl,by omega,by omega,fun j c' h1 h2 h3=>?_⟩;rcases Nat.lt_or_ge j e with h | h
   ·exact hin j c' h1 h h3
   ·have:j=e:=by omega
    subst this;rw [hc] at h3; cases h3; exact hm
  ·rw [Qz hm];refine iteF ?_;refine ⟨_,rfl,_,rfl,_,rfl,_,rfl,_,rfl,z,rfl,hzl,fin fun c' h'=>?_⟩;rw [hc] at h'; cases h'; exact hm
 ·rw [show decide ((e:Int) < (z.length:Int))=false from Qz (by omega)];refine iteF (iteF ?_);refine ⟨_,rfl,_,rfl,_,rfl,_,rfl,_,rfl,z,rfl,hzl,fin fun c' h'=>?_⟩;have:=(List.getElem?_eq_some_iff.mp h').1;omega
theorem zfh:FnScope ["thing"] ["thing"] (defScope z5t):=⟨rfl,rfl,rfl,by decide +kernel,rfl,by decide +kernel,by decide +kernel⟩
theorem zbw {ps:List Str} {k:Nat}:FnOk P w K mg base CX0 k f fd ps (z1j K 0):=z0v fun vs H Q E ⟨v,d,_,_,h,_⟩=>by omega
theorem zf0 {n:Nat} (B:BI mg) (GN:Got P w K mg base "is_name" ["thing"] 2 (z87 K)) (G:Got P w K mg base "is_grove" ["thing"] (n+3) (z1d K n)) (F:Fun K "is_tree" "is_tree" z5t f fd) :
  FnOk P w K mg base CX0 (n+4) f fd ["thing"] (z1j K (n+1)):=by
 refine F.ok zfh (fun vs H Q E h=>?_) (fun cdv A outer s H vs Q E hr h=>?_)
 ·obtain ⟨v,l,rfl,_⟩:=h
  rfl
 obtain ⟨v,d,rfl,th,hd,h80,hw,q⟩:=h;refine ⟨_,Qe (Qj (pe_and (z0w B (pv 0) B.tuple boot_tuple) (pe_and (pe_cmpR op_eq (Qs call_len_seq rfl B.len PySem.boot_len (Qa (pv 0) Qb)) Qg (nomark _))
  (pe_and (z00 GN (hr.mono (by omega)) rfl (Qa (Qm Ql (pv 0) Qg (fun _ _=>rfl)) Qb)) (pe_one (z00 G hr rfl (Qa (Qm Ql (pv 0) Qg (fun _ _=>rfl)) Qb))))))),?_⟩
 obtain ⟨n1,b,ty,kb,y1,y2⟩:=th.ty;refine ⟨_,rfl,_,_,n1,b,rfl,ty,kb,b,rfl,?_⟩;cases b with
 | false =>
  refine iteF ?_;have e:z0n d=false:=by
   cases d with
   | tuple ds=>exact absurd rfl (y2 rfl ds)
   | _=>simp [z0n]
  have:=q H SB.refl;rw [e] at this;exact this
 | true =>
 refine iteT ?_;obtain ⟨a,xs,ds,rfl,rfl,hs,ha⟩:=y1 rfl;refine ⟨_,rfl,a,xs,rfl,.inr hs,rfl,_,rfl,?_⟩;have hl:=TgAll.length ha;refine ite2 (fun c=>?_) (fun c=>?_)
 ·have c':V.int (xs.length:Nat)=V.int 2:=of_decide_eq_true c
  injection c' with c'
  have c2:xs.length=2:=by omega
  cases ha with
  | nil=>simp at c2
  | cons t1 ta =>
   cases ta with
   | nil=>simp at c2
   | cons t2 ta =>
    cases ta with
    | cons t3 ta=>simp at c2
    | nil =>
     rename_i v1 d1 v2 d2;have q1:d2.depth < PyData.depth (.tuple [d1,d2]):=by simp only [PyData.depth,PyData.depthAll]; omega
     have q2:wide d2<=wide (.tuple [d1,d2]):=by simp only [wide,z13]; omega
     refine ⟨_,rfl,a,_,_,_,rfl,rfl,hs,atI_nat (j:=0) rfl,v1,d1,rfl,t1,fun H1 h1=>?_⟩;refine ⟨_,rfl,?_⟩;cases e1:z1a d1 with
     | false =>
      refine iteF ?_;have:=q H1 h1;have e:z0n (.tuple [d1,d2])=false:=by simp [z0n,trD2,e1]
      rw [e] at this;exact this
     | true =>
      refine iteT ?_;refine ⟨_,rfl,a,_,_,_,rfl,rfl,h1.sqT hs,atI_nat (j:=1) rfl,v2,d2,rfl,z1p h1 t2,by omega,by omega,by omega,fun H2 h2=>?_⟩;have:=q H2 (h1.trans h2);have e:z0n (.tuple [d1,d2])=z0e d2:=by simp [z0n,trD2,trD3,e1]
      rw [e] at this;exact this
 ·have c':¬ V.int (xs.length:Nat)=V.int 2:=of_decide_eq_false (Bool.eq_false_iff.mpr c);have c2:¬ xs.length=2:=fun z=>c' (by rw [z]; rfl);have e:z0n (.tuple ds)=false:=by
   cases e:z0n (.tuple ds) with
   | false=>rfl
   | true =>
    obtain ⟨t,e2⟩:=z7v _ e
    injection e2 with e2
    rw [e2] at hl;exact absurd hl c2
  have:=q H SB.refl;rw [e] at this;exact this
abbrev zck:List Str:=["thing","pair"]
theorem sc_q44:FnScope zck ["thing"] (defScope z40):=⟨rfl,rfl,rfl,by decide +kernel,rfl,by decide +kernel,by decide +kernel⟩
theorem zce {ps:List Str} {k:Nat}:FnOk P w K mg base CX0 k f fd ps (z1d K 0):=z0v fun vs H Q E ⟨v,d,_,_,h,_⟩=>by omega
theorem zb8 (bs:List (Tr × Int)):(bs.map Gr.pEnc).map exp0=bs.map fun p=>Gr.tEnc p.1:=by rw [List.map_map]; rfl
theorem z4k:∀ bs:List (Tr × Int),z0c (bs.map fun p=>Gr.tEnc p.1)=true
 | []=>by simp [z0c]
 | p::r=>by rw [List.map_cons,z0c,z4k r,Gr.noList_tEnc]; rfl
theorem zgd {n:Nat} (B:BI mg) (GR:Got P w K mg base "is_rising" ["things"] 1 (z7u K)) (G:Got P w K mg base "are_grove_pairs" ["things"] (n+3) (z23 K true n)) (F:Fun K "is_grove" "is_grove" z40 f fd) :
  FnOk P w K mg base CX0 (n+4) f fd ["thing"] (z1d K (n+1)):=by
 refine F.ok sc_q44 (fun vs H Q E h=>?_) (fun cdv A outer s H vs Q E hr h=>?_)
 ·obtain ⟨v,l,rfl,_⟩:=h
  rfl
 obtain ⟨v,d,rfl,th,hd,h80,hw,q⟩:=h;refine ⟨_,Qc (Qr (PW.pt (pw_or (Qp (Qo (z0w B (pv 0) B.tuple boot_tuple))) (pw_or1 (Qp (Qo (z00 G hr rfl (Qa (pv 0) Qb))))))) (Qe (Qj pe_bl)) pss_nil)
  (Qe (Qj (z00 GR (hr.mono (by omega)) rfl (Qa (pe_lc (own:=[("pair",1)]) (g:=gName 1) (tt:=tYes) (te:=tOp (rIxT K) (tVar 1) (tC (.int 0))) rfl sc_q44.nd
   (pi_tup (pv 0))
   (blkOk_by (N:=zck) (sc:=defScope z40) (by decide +kernel))
   (fun _ _ _ _ _=>pg_name (i:=1) sc_q44.nd rfl (.inl rfl))
   (fun _ _ _ _ _=>pts_nil)
   (fun _ _ _ _ _=>Qm Ql (pv 1) Qg (fun _ _=>rfl))) Qb)))),?_⟩
 obtain ⟨n1,b,ty,kb,y1,y2⟩:=th.ty;refine ⟨_,rfl,_,_,n1,b,rfl,ty,kb,b,rfl,?_⟩;cases b with
 | false =>
  refine iteT (iteT ?_);have e:z0e d=false:=by
   cases d with
   | tuple ds=>exact absurd rfl (y2 rfl ds)
   | _=>simp [z0e]
  have:=q H SB.refl;rw [e] at this;exact this
 | true =>
 refine iteF ?_;obtain ⟨a,xs,ds,rfl,rfl,hs,ha⟩:=y1 rfl;have hl:=TgAll.length ha;have m3:PyData.depth (.tuple ds)=PyData.depthAll ds+1:=by simp [PyData.depth]
 refine ⟨_,rfl,a,xs,ds,rfl,by simpa using hs,ha,by omega,by omega,hw,fun H2 h2=>⟨_,rfl,?_⟩⟩;cases e1:grPs ds with
 | false =>
  refine iteT ?_;have:=q H2 h2;rw [z0e,e1] at this;exact this
 | true =>
  refine iteF ?_;obtain ⟨g,rfl⟩:=z4x ds e1;have hga:GA K H (.ref a) g:=Dp.tup hs (z2t g ha);obtain ⟨a',xs',e',hs',hb⟩:=z0u (hga.sb h2);cases e';have hlen:=hb.length;have gl:g.encs.length=g.ps.length:=by rw [Gr.encs_ps,Ye]
  rw [z2u] at hw;refine ⟨_,rfl,a,rfl,⟨xs',hs'⟩,fun D hD=>?_⟩;refine lc_it (walk_tup (xs:=xs')) (fun i H3=>SB [D] H2 H3/\∃ acc,H3 D=some (.lst acc)/\DpAll K H3 acc ((g.ps.take i).map fun p=>Gr.tEnc p.1)) ⟨SB.new hD _,[],Qt,.nil⟩ (fun i H3 hi h3=>(h3.1.drop hD).sqT hs') (fun i x H3 H' hi h3 y=>?_) (fun H3 h3=>?_)
  ·obtain ⟨h3,acc,h4,h5⟩:=h3;obtain ⟨rfl,ex⟩:=y;obtain ⟨p,ep,hpd⟩:=hb.get ex;obtain ⟨ad,bd,ux,rfl,hsx,hst,hdx,hdt⟩:=z0h hpd;have h6:=h3.drop hD;have hla2:=DpAll.length h5;refine ⟨rfl,?_⟩;refine ⟨_,rfl,ad,_,_,_,rfl,rfl,h6.sqT hsx,atI_nat (j:=0) rfl,acc,h4,?_,?_⟩
   ·rw [hla2,Ye,List.length_take];exact z0j (by omega)
   ·have h7:=SB.set (ps:=[D]) h4 (by simp) (.lst (acc++[.ref bd]));refine ⟨h3.trans h7,_,Qt,?_⟩;rw [Yg,ep,Yj];exact DpAll.append (z50 h7 _ _ (z4k _) h5) (.cons (z0a h7 _ _ (Gr.noList_tEnc _) (z0a h6 _ _ (Gr.noList_tEnc _) hdt)) .nil)
  ·obtain ⟨h3',acc,h4,h5⟩:=h3;rw [hlen,Yh] at h5;have h6:=h3'.drop hD;have hla2:=DpAll.length h5;refine ⟨D,acc,g.ps.map fun p=>Gr.tEnc p.1,rfl,SqL.of h4,h5,?_,?_,?_,fun H9 h9=>?_⟩
   ·intro d hd';obtain ⟨p1,m1,rfl⟩:=Qx hd';have hd2:(Gr.pEnc p1).depth<=PyData.depthAll g.encs:=PyData.depth_le_depthAll _ _ (by rw [Gr.encs_ps]; exact List.mem_map_of_mem m1);have hd3:(Gr.tEnc p1.1).depth < (Gr.pEnc p1).depth:=by
     show _ < (PyData.tuple [Gr.tEnc p1.1,.int p1.2]).depth;simp only [PyData.depth,PyData.depthAll]; omega
    exact ⟨Gr.noList_tEnc _,(fun z:Gr.tEnc p1.1=.none=>by simp [Gr.tEnc] at z),by omega⟩
   ·intro d hd' d2 hd2;obtain ⟨p1,_,rfl⟩:=Qx hd';obtain ⟨p2,_,rfl⟩:=Qx hd2;exact Orderly.al (enc:=Gr.tEnc) _ _
   ·rw [hla2,Ye]; omega
   ·have:=q H9 ((h2.trans h6).trans h9);rw [z0e,e1,Bool.true_and,Gr.encs_ps,zb8] at this;exact this
abbrev z8x:List Str:=["things","thing"]
theorem sc_q28:FnScope z8x ["things"] (defScope z4c):=⟨rfl,rfl,rfl,by decide +kernel,rfl,by decide +kernel,by decide +kernel⟩
theorem zbl {ps:List Str} {tp:Bool} {k:Nat}:FnOk P w K mg base CX0 k f fd ps (z23 K tp 0):=z0v fun vs H Q E ⟨a,xs,ds,_,_,_,h,_⟩=>by omega
theorem z21:∀ ds:List PyData,grPs ds=ds.all grP
 | []=>by rw [grPs]; rfl
 | d::ds=>by rw [grPs,z21 ds]; rfl
theorem ze6 {n:Nat} (B:BI mg) (GM:Got P w K mg base "is_many" ["thing"] 2 (z5s K [])) (G:Got P w K mg base "is_tree" ["thing"] (n+3) (z1j K n)) (F:Fun K "are_grove_pairs" "are_grove_pairs" z4c f fd) :
  FnOk P w K mg base CX0 (n+4) f fd ["things"] (z23 K true (n+1)):=by
 refine F.ok sc_q28 (fun vs H Q E h=>?_) (fun cdv A outer s H vs Q E hr h=>?_)
 ·obtain ⟨a,xs,ds,rfl,_⟩:=h
  rfl
 obtain ⟨a,xs,ds,rfl,hs,ha,hd,h79,hw,q⟩:=h;refine ⟨_,Qc (ps_for PassesOwn.never rfl (pi_tup (pv 0)) (pg_name (i:=1) sc_q28.nd rfl (.inl rfl))
   (Qc (Qr (PW.pt (pw_or (Qp (Qo (z0w B (pv 1) B.tuple boot_tuple))) (pw_or1 (pt_cmpR op_ne (Qs call_len_seq rfl B.len PySem.boot_len (Qa (pv 1) Qb)) Qg (nomark _))))) (Qe (Qj pe_bl)) pss_nil)
   (Qe (Qr (PW.pt (pw_or (Qp (Qo (z00 G hr rfl (Qa (Qm Ql (pv 1) Qg (fun _ _=>rfl)) Qb)))) (pw_or1 (Qp (Qo (z00 GM (hr.mono (by omega)) rfl (Qa (Qm Ql (pv 1) Qg (fun _ _=>rfl)) Qb))))))) (Qe (Qj pe_bl)) pss_nil))))
  (Qe (Qj pe_bl)),?_⟩
 have hs:SqT K H a xs:=by simpa using hs
 have hl:=TgAll.length ha;rw [z2u] at hw;refine ⟨_,rfl,a,rfl,⟨xs,hs⟩,?_⟩;refine for_tup (K:=K) (a:=a) (xs:=xs) (fun i σ H2=>SB [] H H2/\(∃ o,σ=[some (.ref a),o])/\(ds.take i).all grP=true) ⟨SB.refl,⟨none,rfl⟩,by simp⟩ (fun i σ H2 hi h2=>h2.1.sqT hs) (fun i x σ H2 hx h2=>?_) (fun σ H2 h2=>?_)
 ·obtain ⟨h2,⟨o,rfl⟩,h3⟩:=h2;obtain ⟨dx,ex,tx⟩:=TgAll.get ha hx;have mx:=Qu ex;have m1:=z3f ex;have m2:=z4z _ _ mx;have no:grP dx=false->∀ H',SB [] H2 H'->Q (.bl false) H':=fun e H' s'=>by
   have:=q H' (h2.trans s');have e2:grPs ds=false:=by
    rw [z21,List.all_eq_false];exact ⟨dx,mx,by rw [e]; exact Bool.false_ne_true⟩
   rw [e2] at this;exact this
  obtain ⟨n1,b,ty,kb,y1,y2⟩:=(z1p h2 tx).ty;refine ⟨_,rfl,_,_,n1,b,rfl,ty,kb,b,rfl,?_⟩;cases b with
  | false =>
   refine iteT (iteT (no ?_ _ SB.refl));cases dx with
   | tuple ds=>exact absurd rfl (y2 rfl ds)
   | _=>simp [grP]
  | true =>
  refine iteF ?_;obtain ⟨b1,ys,es,rfl,rfl,hs1,ha1⟩:=y1 rfl;refine ⟨_,rfl,b1,ys,rfl,.inr hs1,rfl,_,rfl,?_⟩;have hl1:=TgAll.length ha1;by_cases c2:ys.length=2
  ·rw [show (!decide (V.int (ys.length:Nat)=V.int 2))=false by rw [c2]; rfl];refine iteF ?_;cases ha1 with
   | nil=>simp at c2
   | cons t1 ta =>
    cases ta with
    | nil=>simp at c2
    | cons t2 ta =>
     cases ta with
     | cons t3 ta=>simp at c2
     | nil =>
      rename_i v1 d1 v2 d2;have q1:d1.depth < PyData.depth (.tuple [d1,d2]):=by simp only [PyData.depth,PyData.depthAll]; omega
      have q2:wide d1<=wide (.tuple [d1,d2]):=by simp only [wide,z13]; omega
      refine ⟨_,rfl,b1,_,_,_,rfl,rfl,hs1,atI_nat (j:=0) rfl,v1,d1,rfl,t1,by omega,by omega,by omega,fun H3 h3'=>?_⟩;refine ⟨_,rfl,?_⟩;cases e1:z0n d1 with
      | false=>exact iteT (iteT (no (by simp [grP,grP2,e1]) _ h3'))
      | true =>
       refine iteF ?_;refine ⟨_,rfl,b1,_,_,_,rfl,rfl,h3'.sqT hs1,atI_nat (j:=1) rfl,v2,z1o d2,rfl,(z1p h3' t2).th,_,rfl,?_⟩;rw [z55];have e:grP (.tuple [d1,d2])=z0x d2:=by simp [grP,grP2,z11,e1]
       cases e2:z0x d2 with
       | false=>exact iteT (no (by rw [e,e2]) _ h3')
       | true =>
        refine iteF ⟨h2.trans h3',⟨_,rfl⟩,?_⟩;rw [Yg,ex,List.all_append,h3];simp [e,e2]
  ·rw [show (!decide (V.int (ys.length:Nat)=V.int 2))=true by rw [Qz (fun z=>by injection z with z; omega)]; rfl];refine iteT (no ?_ _ SB.refl);cases e:grP (.tuple es) with
   | false=>rfl
   | true =>
    obtain ⟨t,i,e2,_⟩:=z6w _ e
    injection e2 with e2
    rw [e2] at hl1;exact absurd hl1 c2
 ·obtain ⟨h2,⟨o,rfl⟩,h3⟩:=h2;rw [hl,Yh,<- z21] at h3;have:=q H2 h2;rw [h3] at this;exact this
theorem z36 {n:Nat} (B:BI mg) (GM:Got P w K mg base "is_many" ["thing"] 2 (z5s K [])) (G:Got P w K mg base "is_tree" ["thing"] (n+3) (z1j K n)) (F:Fun K "are_grove_pairs" "are_grove_pairs" z4c f fd) :
  FnOk P w K mg base CX0 (n+4) f fd ["things"] (z23 K false (n+1)):=by
 refine F.ok sc_q28 (fun vs H Q E h=>?_) (fun cdv A outer s H vs Q E hr h=>?_)
 ·obtain ⟨a,xs,ds,rfl,_⟩:=h
  rfl
 obtain ⟨a,xs,ds,rfl,hs,ha,hd,h79,hw,q⟩:=h;refine ⟨_,Qc (ps_for PassesOwn.never rfl (pi_list (pv 0)) (pg_name (i:=1) sc_q28.nd rfl (.inl rfl))
   (Qc (Qr (PW.pt (pw_or (Qp (Qo (z0w B (pv 1) B.tuple boot_tuple))) (pw_or1 (pt_cmpR op_ne (Qs call_len_seq rfl B.len PySem.boot_len (Qa (pv 1) Qb)) Qg (nomark _))))) (Qe (Qj pe_bl)) pss_nil)
   (Qe (Qr (PW.pt (pw_or (Qp (Qo (z00 G hr rfl (Qa (Qm Ql (pv 1) Qg (fun _ _=>rfl)) Qb)))) (pw_or1 (Qp (Qo (z00 GM (hr.mono (by omega)) rfl (Qa (Qm Ql (pv 1) Qg (fun _ _=>rfl)) Qb))))))) (Qe (Qj pe_bl)) pss_nil))))
  (Qe (Qj pe_bl)),?_⟩
 have hs:SqL K H a xs:=by simpa using hs
 have hl:=TgAll.length ha;rw [z2u] at hw;refine ⟨_,rfl,a,rfl,⟨xs,hs⟩,?_⟩;refine for_list (K:=K) (a:=a) (xs:=xs) (fun i σ H2=>SB [] H H2/\(∃ o,σ=[some (.ref a),o])/\(ds.take i).all grP=true) ⟨SB.refl,⟨none,rfl⟩,by simp⟩ (fun i σ H2 hi h2=>h2.1.sqL nmn hs) (fun i x σ H2 hx h2=>?_) (fun σ H2 h2=>?_)
 ·obtain ⟨h2,⟨o,rfl⟩,h3⟩:=h2;obtain ⟨dx,ex,tx⟩:=TgAll.get ha hx;have mx:=Qu ex;have m1:=z3f ex;have m2:=z4z _ _ mx;have no:grP dx=false->∀ H',SB [] H2 H'->Q (.bl false) H':=fun e H' s'=>by
   have:=q H' (h2.trans s');have e2:grPs ds=false:=by
    rw [z21,List.all_eq_false];exact ⟨dx,mx,by rw [e]; exact Bool.false_ne_true⟩
   rw [e2] at this;exact this
  obtain ⟨n1,b,ty,kb,y1,y2⟩:=(z1p h2 tx).ty;refine ⟨_,rfl,_,_,n1,b,rfl,ty,kb,b,rfl,?_⟩;cases b with
  | false =>
   refine iteT (iteT (no ?_ _ SB.refl));cases dx with
   | tuple ds=>exact absurd rfl (y2 rfl ds)
   | _=>simp [grP]
  | true =>
  refine iteF ?_;obtain ⟨b1,ys,es,rfl,rfl,hs1,ha1⟩:=y1 rfl;refine ⟨_,rfl,b1,ys,rfl,.inr hs1,rfl,_,rfl,?_⟩;have hl1:=TgAll.length ha1;by_cases c2:ys.length=2
  ·rw [show (!decide (V.int (ys.length:Nat)=V.int 2))=false by rw [c2]; rfl];refine iteF ?_;cases ha1 with
   | nil=>simp at c2
   | cons t1 ta =>
    cases ta with
    | nil=>simp at c2
    | cons t2 ta =>
     cases ta with
     | cons t3 ta=>simp at c2
     | nil =>
      rename_i v1 d1 v2 d2;have q1:d1.depth < PyData.depth (.tuple [d1,d2]):=by simp only [PyData.depth,PyData.depthAll]; omega
      have q2:wide d1<=wide (.tuple [d1,d2]):=by simp only [wide,z13]; omega
      refine ⟨_,rfl,b1,_,_,_,rfl,rfl,hs1,atI_nat (j:=0) rfl,v1,d1,rfl,t1,by omega,by omega,by omega,fun H3 h3'=>?_⟩;refine ⟨_,rfl,?_⟩;cases e1:z0n d1 with
      | false=>exact iteT (iteT (no (by simp [grP,grP2,e1]) _ h3'))
      | true =>
       refine iteF ?_;refine ⟨_,rfl,b1,_,_,_,rfl,rfl,h3'.sqT hs1,atI_nat (j:=1) rfl,v2,z1o d2,rfl,(z1p h3' t2).th,_,rfl,?_⟩;rw [z55];have e:grP (.tuple [d1,d2])=z0x d2:=by simp [grP,grP2,z11,e1]
       cases e2:z0x d2 with
       | false=>exact iteT (no (by rw [e,e2]) _ h3')
       | true =>
        refine iteF ⟨h2.trans h3',⟨_,rfl⟩,?_⟩;rw [Yg,ex,List.all_append,h3];simp [e,e2]
  ·rw [show (!decide (V.int (ys.length:Nat)=V.int 2))=true by rw [Qz (fun z=>by injection z with z; omega)]; rfl];refine iteT (no ?_ _ SB.refl);cases e:grP (.tuple es) with
   | false=>rfl
   | true =>
    obtain ⟨t,i,e2,_⟩:=z6w _ e
    injection e2 with e2
    rw [e2] at hl1;exact absurd hl1 c2
 ·obtain ⟨h2,⟨o,rfl⟩,h3⟩:=h2;rw [hl,Yh,<- z21] at h3;have:=q H2 h2;rw [h3] at this;exact this
theorem sc_q65:FnScope ["grove","found","pair"] ["grove"] (defScope z66):=⟨rfl,rfl,rfl,by decide +kernel,rfl,by decide +kernel,by decide +kernel⟩
theorem zf9 {n:Nat} (G:Got P w K mg base "pairs_within" ["grove"] n (z1c K n)) (F:Fun K "pairs_within" "pairs_within" z66 f fd):FnOk P w K mg base CX0 (n+1) f fd ["grove"] (z1c K (n+1)):=by
 refine F.ok sc_q65 (fun vs H Q E h=>?_) (fun cdv A outer s H vs Q E hr h=>?_)
 ·obtain ⟨v,g,rfl,_⟩:=h
  rfl
 obtain ⟨v,g,rfl,hg,hd,hp,q⟩:=h;refine ⟨_,Qc (ps_set (i:=1) sc_q65.nd rfl (.inl rfl) (pe_lst Qb))
  (Qc (ps_for PassesOwn.never rfl (pi_tup (pv 0)) (pg_name (i:=2) sc_q65.nd rfl (.inl rfl))
   (Qc (ps_expr (pe_bm PySem.F.plainAttrs_list PySem.F.slot_list_append PySem.F.type_list_append mt_append (pv 1) (Qa (pv 2) Qb)))
   (Qe (ps_expr (pe_bm PySem.F.plainAttrs_list PySem.F.slot_list_extend PySem.F.type_list_extend mt_extend (pv 1) (Qa (z00 G hr rfl (Qa (Qm Ql (Qm Ql (pv 2) Qg (fun _ _=>rfl)) Qg (fun _ _=>rfl)) Qb)) Qb))))))
  (Qe (Qj (pv 1)))),?_⟩
 obtain ⟨a,xs,rfl,hs,hb⟩:=z0u hg;have bl:=hb.length;have wl:=g.within_length;refine ⟨(by show 0<=sizeLine; decide),fun D hD=>?_⟩;refine ⟨_,rfl,a,rfl,⟨xs,(SB.new (ps:=[]) hD _).sqT hs⟩,?_⟩;refine for_it (walk_tup (xs:=xs)) (fun i σ H2=>SB [D] H H2/\∃ us o2,σ=[some (.ref a),some (.ref D),o2]/\H2 D=some (.lst us)/\Bears K H2 Gr.pEnc us ((g.ps.take i).flatMap fun p=>p::p.1.2.within)) ⟨SB.new hD _,[],none,rfl,Qt,.nil⟩ (fun i σ H2 hi h2=>(h2.1.drop hD).sqT hs) (fun i x σ H2 H' hi h2 y=>?_) (fun σ H2 h2=>?_)
 ·obtain ⟨s2,us,o2,rfl,hD2,hb2⟩:=h2;obtain ⟨rfl,ex⟩:=y;obtain ⟨p,ep,hpd⟩:=hb.get ex;have pm:=Qu ep;obtain ⟨ad,td,ux,rfl,hs2,hs3,hga,_⟩:=z0h hpd;have s2':=s2.drop hD;have ul:=hb2.length;have hsplit:(g.ps.take (i+1)).flatMap (fun p=>p::p.1.2.within)=(g.ps.take i).flatMap (fun p=>p::p.1.2.within)++(p::p.1.2.within):=by rw [Yg,ep]; simp
  have hle:((g.ps.take i).flatMap (fun p=>p::p.1.2.within)).length+(p.1.2.within.length+1)<=200000:=by
   have h1:g.within=(g.ps.take (i+1)).flatMap (fun p=>p::p.1.2.within)++(g.ps.drop (i+1)).flatMap (fun p=>p::p.1.2.within):=by rw [Gr.within_ps,<- List.flatMap_append,List.take_append_drop]
   have h2:=congrArg List.length h1;rw [hsplit,Yf,Yf,Yk,wl] at h2;omega
  refine ⟨_,rfl,.inl ⟨rfl,_,SqL.of hD2⟩,_,rfl,D,us,_,rfl,rfl,hD2,z7t (by omega),?_⟩;have t3:=SB.set (ps:=[D]) hD2 (by simp) (.lst (us++[.ref ad]));have hD3:(upd H' D (.lst (us++[.ref ad]))) D=some (.lst (us++[.ref ad])):=Qt;have hb3:=Bears.append (hb2.sb t3 Gr.noList_pEnc) (.cons (z0a (s2.trans t3) _ _ (Gr.noList_pEnc _) hpd) .nil);have s3:=s2.trans t3;have s3':=s3.drop hD;generalize hH3:upd H' D (.lst (us++[.ref ad]))=H3 at t3 hD3 hb3 s3 s3';have pd:=g.mem_deep p pm;have pp:=g.mem_parts p pm;refine ⟨_,rfl,.inl ⟨rfl,_,SqL.of hD3⟩,_,rfl,ad,_,_,_,rfl,rfl,s3'.sqT hs2,atI_nat (j:=0) rfl,td,_,_,_,rfl,rfl,s3'.sqT hs3,atI_nat (j:=1) rfl,ux,p.1.2,rfl,hga.sb s3',by omega,by omega,fun D2 vs2 H4 s4 hDn hD4 hb4=>?_⟩;have hD4':=s4.keep _ _ hD3 nmn;have vl:=hb4.length;refine ⟨D,D2,_,_,rfl,rfl,hD4',hD4,?_,?_⟩
  ·rw [Yf,Yi];have:1000000<=sizeLine:=by decide
   omega
  have t5:=SB.set (ps:=[D]) hD4' (by simp) (.lst (us++[.ref ad]++vs2));refine ⟨(s3.trans s4.nil).trans t5,_,_,rfl,Qt,?_⟩;rw [hsplit,show ((g.ps.take i).flatMap (fun p=>p::p.1.2.within)++(p::p.1.2.within))=(g.ps.take i).flatMap (fun p=>p::p.1.2.within)++[p]++p.1.2.within by simp];exact Bears.append ((hb3.sb s4 Gr.noList_pEnc).sb t5 Gr.noList_pEnc) (hb4.sb t5 Gr.noList_pEnc)
 ·obtain ⟨s2,us,o2,rfl,hD2,hb2⟩:=h2;rw [bl,Yh,<- Gr.within_ps] at hb2;exact ⟨_,rfl,q D us H2 (s2.drop hD) hD hD2 hb2⟩
abbrev zd7:List Str:=["grove","tree","many"]
theorem sc_q55:FnScope zd7 ["grove"] (defScope z3x):=⟨rfl,rfl,rfl,by decide +kernel,rfl,by decide +kernel,by decide +kernel⟩
theorem zen (B:BI mg) (G_q65:Got P w K mg base "pairs_within" ["grove"] (70) (z1c K 70)) (F:Fun K "kinds_within" "kinds_within" z3x f fd):FnOk P w K mg base CX0 (71) f fd ["grove"] (z4y K):=by
 refine F.ok sc_q55 (fun vs H Q E h=>?_) (fun cdv A outer s H vs Q E hr h=>?_)
 ·obtain ⟨v,g,ns,rfl,_⟩:=h
  rfl
 obtain ⟨v,g,ns,rfl,hv,hd,hp,hk,hn,q⟩:=h;have hun2:=hunT hr;refine ⟨_,Qe (Qj (Qs (z4j rfl) rfl B.sorted (by decide +kernel) (Qa (zaw (own:=[("tree",1),("many",2)]) (g:=(gTup K 2 (gCons (gName 1) (gCons (gName 2) gNil)))) (tt:=tYes) (te:=(tOp (rIxT K) (tVar 1) (tC (.int 0)))) rfl sc_q55.nd (pi_list (z00 G_q65 (hr.mono (by omega)) rfl (Qa (pv 0) Qb))) (blkOk_by (N:=zd7) (sc:=defScope z3x) (by decide +kernel)) (fun _ _ _ _ _=>(pg_tup rfl (Qi (pg_name (i:=1) sc_q55.nd rfl (.inl rfl)) (Qi (pg_name (i:=2) sc_q55.nd rfl (.inl rfl)) pgs_nil)))) (fun _ _ _ _ _=>pts_nil) (fun _ _ _ _ _=>(Qm Ql (pv 1) Qg (fun _ _=>rfl)))) Qb))),?_⟩;have scb:3001 < scanBound:=by decide +kernel
 have wl:=g.within_length;refine ⟨_,rfl,v,g,rfl,hv,by omega,by omega,fun ll us H1 s1 nll hll hbl=>?_⟩;have ul:=hbl.length;refine ⟨ll,rfl,⟨_,SqL.of hll⟩,fun D nD=>?_⟩;refine zb9 (walk_list (xs:=us)) nD (by omega) (fun i ss H2=>ss.Nodup/\∀ x,x ∈ ss ↔ x ∈ (g.within.take i).map fun p:Tr × Int=>p.1.1) ⟨List.nodup_nil,by simp⟩ (fun H2 s2=>s2.sqL nmn (SqL.of hll)) (fun _ _ _ _ _ h=>h) (fun Pv i x Hq H2 ss hi s2 y hR hl fin _=>?_) (fun ss H2 s2 hD2 hR hl=>?_)
 ·obtain ⟨rfl,ey⟩:=y;obtain ⟨p,ep,hpd⟩:=hbl.get ey;obtain ⟨ad,td,ux,rfl,hs2,hs3,hga,_⟩:=z0h hpd;refine ⟨ad,_,rfl,s2.sqT hs2,rfl,_,_,rfl,_,_,rfl,rfl,rfl,?_⟩;refine ⟨_,rfl,td,_,_,_,rfl,rfl,s2.sqT hs3,atI_nat (j:=0) rfl,fin p.1.1 _ SB.refl ⟨z6f hR.1,fun x=>?_⟩⟩;rw [z8e,hR.2,Yg,ep,Yj,List.mem_append];simp [or_comm]
 ·rw [ul,Yh] at hR;have sl:ss.length<=60:=by
   have:=hR.1.length_le_of_subset (l₂:=ns) fun x hx=>by
    obtain ⟨p,hp,e⟩:=Qx ((hR.2 x).mp hx);rw [<- e]; exact hk p hp
   omega
  refine ⟨D,ss,rfl,hD2,by omega,fun ss' p pm srt np=>?_⟩;have t3:=SB.new (ps:=[]) np (.lst (ss'.map V.str));exact q p ss' _ ((s1.trans s2).trans t3) ((s1.trans s2).dom _ np) Qt (.perm pm srt hR.1 hR.2) (by rw [pm.length_eq]; omega)
abbrev zib:List Str:=["book","name"]
theorem zf5:FnScope zib ["book","name"] (defScope z6i):=⟨rfl,rfl,rfl,by decide +kernel,rfl,by decide +kernel,by decide +kernel⟩
theorem zgo {C_NO_GROVES C_Book C_NoKind:Addr} (B:BI mg) (V_NO_GROVES:mg "NO_GROVES"=some (.ref C_NO_GROVES)) (W_NO_GROVES:∀ H,Dp K H (.ref C_NO_GROVES) (Ru.enc (.nil,.nil))) (G_q2:z2e P w K mg base C_Book "rules" ["self","name"] (4) (z2w K C_Book C_NoKind)) (F:Fun K "rules_from_nought" "rules_from_nought" z6i f fd):FnOk P w K mg base (L2.CX P w) (5) f fd ["book","name"] (z53 K C_Book C_NoKind):=by
 refine F.okX zf5 (fun vs H Q E h=>?_) (fun cdv A outer s H vs Q E hr h=>?_)
 ·obtain ⟨v,b,n,rfl,_⟩:=h
  rfl
 obtain ⟨v,b,n,rfl,hb,hl,hr4,qk,qE⟩:=h;have hun2:=hunT hr;refine ⟨_,Qe (Qj (pe_op op_cat (pe_lst (Qa (pe_glob (v:=.ref C_NO_GROVES) rfl V_NO_GROVES rfl) Qb)) (z4l G_q2 (hr.mono (by omega)) (takes_of rfl rfl rfl rfl) (pv 0) (Qa (pv 1) Qb)))),?_⟩;have szl:=sizeLine_eq;obtain ⟨va,vdx,vd1,vd2,rfl,hva⟩:=hb.at;refine ⟨by show 1<=sizeLine; decide,fun L hL=>?_⟩;have t1:=SB.new (ps:=[]) hL (.lst [.ref C_NO_GROVES]);have hL1:upd H L (.lst [.ref C_NO_GROVES]) L=some (.lst [.ref C_NO_GROVES]):=Qt;generalize upd H L (.lst [.ref C_NO_GROVES])=H1 at t1 hL1;refine ⟨_,rfl,va,vdx,_,rfl,t1.keep _ _ hva nmn,rfl,_,rfl,_,b,n,rfl,hb.sb0 t1,hl,hr4,fun k eg ll us H2 s2 nll hll hbl=>?_,fun z d H' s' nd hd=>qE z d H' (t1.trans s') (t1.dom d nd) hd⟩;have k4:=hr4 k (Bk.get_some eg).1;have ul:=hbl.length;refine ⟨L,ll,_,_,rfl,rfl,s2.keep _ _ hL1 nmn,hll,by show 1+_<=sizeLine; omega,fun M hM=>?_⟩;have t3:=SB.new (ps:=[]) hM (.lst ([.ref C_NO_GROVES]++us));have s3:=t1.trans s2;exact qk k eg M _ _ (s3.trans t3) (s3.dom _ hM) Qt (.cons (W_NO_GROVES _) (hbl.sb t3 Ru.noList_enc))
abbrev ziw:List Str:=["book","name"]
theorem zeu:FnScope ziw ["book","name"] (defScope z67):=⟨rfl,rfl,rfl,by decide +kernel,rfl,by decide +kernel,by decide +kernel⟩
theorem zep {C_NoKind C_Book:Addr} (B:BI mg) (O_NoKind:OwnI P w K mg base "NoKind" C_NoKind 1) (G_q1:GotM P w K mg base C_Book "names" ["self"] (1) (z1z K C_Book)) (F:Fun K "check_kind" "check_kind" z67 f fd):FnOk P w K mg base (L2.CX P w) (3) f fd ["book","name"] (z34 K C_Book C_NoKind):=by
 refine F.okX zeu (fun vs H Q E h=>?_) (fun cdv A outer s H vs Q E hr h=>?_)
 ·obtain ⟨v,b,n,rfl,_⟩:=h
  rfl
 obtain ⟨v,b,n,rfl,hb,hl,qk,qE⟩:=h;have hun2:=hunT hr;refine ⟨_,Qe (Qr (pt_cmpR op_notIn_seq (pv 1) (z4o G_q1 (hr.mono (by omega)) (pv 0)) (by rfl)) (Qe (ps_raise rfl (takes_of rfl rfl rfl rfl) (z80 O_NoKind (hr.mono (by omega)) rfl (pv 1)))) pss_nil),?_⟩;obtain ⟨a,dx,d1,d2,rfl,h1⟩:=hb.at;refine ⟨_,rfl,_,rfl,a,dx,_,rfl,h1,rfl,?_⟩;refine ⟨_,b,rfl,hb,hl,fun l H1 s1 hn hl1=>?_⟩;refine ⟨l,_,rfl,.inl (SqL.of hl1),rfl,z1e _,_,rfl,?_⟩;rw [z1k,Bk.get_isSome];cases e:b.get n with
 | some k=>exact qk k e H1 s1
 | none=>exact ⟨_,rfl,fun d hd=>qE e d _ (s1.trans (SB.new hd _)) (s1.dom d hd) Qt⟩
abbrev zj2:List Str:=["book","grove","kind"]
theorem sc_q34:FnScope zj2 ["book","grove"] (defScope z6p):=⟨rfl,rfl,rfl,by decide +kernel,rfl,by decide +kernel,by decide +kernel⟩
theorem zed {C_Book C_NoKind:Addr} (B:BI mg) (G_q55:Got P w K mg base "kinds_within" ["grove"] (71) (z4y K)) (G_q33:GotX P w K mg base "check_kind" ["book","name"] (3) (z34 K C_Book C_NoKind)) (F:Fun K "check_kinds" "check_kinds" z6p f fd):FnOk P w K mg base (L2.CX P w) (72) f fd ["book","grove"] (z6d K C_Book):=by
 refine F.okX sc_q34 (fun vs H Q E h=>?_) (fun cdv A outer s H vs Q E hr h=>?_)
 ·obtain ⟨v,w,b,g,rfl,_⟩:=h
  rfl
 obtain ⟨v,w,b,g,rfl,hv,hg,hl,hd,hp,hk,q⟩:=h;have hun2:=hunT hr;refine ⟨_,Qe (ps_for (passes_of rfl) rfl (pi_list (z00 G_q55 (hr.mono (by omega)) rfl (Qa (pv 1) Qb))) (pg_name (i:=2) sc_q34.nd rfl (.inl rfl))
   (Qe (ps_expr (z0k G_q33 (hr.mono (by omega)) rfl (takes_of rfl rfl rfl rfl) (Qa (pv 0) (Qa (pv 2) Qb)))))),?_⟩
 refine ⟨_,rfl,w,g,b.names,rfl,hg,hd,hp,hk,by rw [Ye]; exact hl,fun l ss H1 s1 nl hls so sl=>?_⟩;refine ⟨l,rfl,⟨_,SqL.of hls⟩,?_⟩;refine for_it (walk_list (xs:=ss.map V.str)) (fun i σ H2=>SB [] H1 H2/\∃ o2,σ=[some v,some w,o2]) ⟨SB.refl,none,rfl⟩ (fun i σ H2 hi h2=>h2.1.sqL nmn (SqL.of hls)) (fun i x σ Hq H2 hi h2 y=>?_) (fun σ H2 h2=>?_)
 ·obtain ⟨s2,o2,rfl⟩:=h2;obtain ⟨rfl,ey⟩:=y;rw [List.getElem?_map] at ey;obtain ⟨k,ek,rfl⟩:=Option.map_eq_some_iff.mp ey;obtain ⟨p,hp2,e⟩:=Qx ((so.mem k).mp (Qu ek));obtain ⟨kd,eg⟩:=Bk.get_of (e ▸ hk p hp2);refine ⟨_,rfl,_,rfl,v,b,k,rfl,hv.sb0 (s1.trans s2),by omega,fun _ _ H3 s3=>⟨s2.trans s3,_,rfl⟩,fun z=>by rw [eg] at z; cases z⟩
 ·obtain ⟨s2,o2,rfl⟩:=h2;exact q _ (s1.trans s2)
abbrev za4:List Str:=["things","thing","names","rule"]
theorem sc_q29:FnScope za4 ["things"] (defScope z33):=⟨rfl,rfl,rfl,by decide +kernel,rfl,by decide +kernel,by decide +kernel⟩
theorem zef (B:BI mg) (L_MOST_KINDS:∃ t,mg "MOST_KINDS"=some (.int (8) t)) (G_q45:Got P w K mg base "is_kind" ["thing"] (86) (z8j K)) (G_q51:Got P w K mg base "is_rule_of" ["rule","names"] (71) (z30 K)) (F:Fun K "are_kinds" "are_kinds" z33 f fd):FnOk P w K mg base CX0 (87) f fd ["things"] (z59 K):=by
 refine F.ok sc_q29 (fun vs H Q E h=>?_) (fun cdv A outer s H vs Q E hr h=>?_)
 ·obtain ⟨l,xs,ts,rfl,_⟩:=h
  rfl
 obtain ⟨l,xs,ts,rfl,hs,ha,hf,hl,q⟩:=h;obtain ⟨tk_MOST_KINDS,h_MOST_KINDS⟩:=L_MOST_KINDS;have hun2:=hunT hr;refine ⟨_,Qc (Qr (Qp (pt_chain op_le op_le Qg (Qs call_len_seq rfl B.len PySem.boot_len (Qa (pv 0) Qb)) (pe_glob (v:=.int (8)) rfl h_MOST_KINDS ⟨_,rfl⟩))) (Qe (Qj pe_bl)) pss_nil)
  (Qc (ps_for PassesOwn.never rfl (pi_list (pv 0)) (pg_name (i:=1) sc_q29.nd rfl (.inl rfl))
   (Qe (Qr (Qp (Qo (z00 G_q45 (hr.mono (by omega)) rfl (Qa (pv 1) Qb)))) (Qe (Qj pe_bl)) pss_nil)))
  (Qc (ps_set (i:=2) sc_q29.nd rfl (.inr rfl) (pe_lc (own:=[("thing",1)]) (g:=(gName 1)) (tt:=tYes) (te:=(tOp (rIxT K) (tVar 1) (tC (.int 0)))) rfl sc_q29.nd (pi_list (pv 0)) (blkOk_by (N:=za4) (sc:=defScope z33) (by decide +kernel)) (fun _ _ _ _ _=>(pg_name (i:=1) sc_q29.nd rfl (.inl rfl))) (fun _ _ _ _ _=>pts_nil) (fun _ _ _ _ _=>(Qm Ql (pv 1) Qg (fun _ _=>rfl)))))
  (Qc (Qr (pt_cmpR op_ne (za9 rfl B rfl rfl (pv 2)) (Qs call_len_seq rfl B.len PySem.boot_len (Qa (pv 2) Qb)) (nomark _)) (Qe (Qj pe_bl)) pss_nil)
  (Qe (Qj (Qs (cr_all rfl) rfl B.all boot_all (Qa (pe_lc2 (own:=[("thing",1),("rule",3)]) (vs1:=[3]) (wi1:=(iList K (tOp (rIxT K) (tVar 1) (tC (.int 2))))) (g:=(gName 1)) (g1:=(gName 3)) (tt:=tYes) (tt1:=tYes) (te:=(tCall (z30 K) [] E0 (tCons (tVar 3) (tCons (tVar 2) tNil)))) rfl sc_q29.nd (pi_list (pv 0)) (blkOk_by (N:=za4) (sc:=defScope z33) (by decide +kernel)) (by simp) (fun _ _ _ _ _=>(pg_name (i:=1) sc_q29.nd rfl (.inl rfl))) (fun _ _ _ _ _=>pts_nil) (fun _ _ _ _ _=>(pi_list (Qm Ql (pv 1) Qg (fun _ _=>rfl)))) (fun _ _ _ _ _=>(pg_name (i:=3) sc_q29.nd rfl (.inl rfl))) (fun _ _ _ _ _=>pts_nil) (fun _ _ _ _ _=>(z00 G_q51 (hr.mono (by omega)) rfl (Qa (pv 3) (Qa (pv 2) Qb))))) Qb))))))),?_⟩
 have no:¬ KTBk ts->∀ H',SB [] H H'->Q (.bl false) H':=fun e H' s'=>q false H' s' ⟨(fun z=>nomatch z),fun z=>absurd z e⟩;have xlen:=ha.length;have szl:=sizeLine_eq;refine ⟨_,rfl,l,xs,rfl,.inl hs,_,_,rfl,rfl,_,rfl,?_⟩;refine ite2 (fun c=>?_) (fun c=>?_)
 ·have c1:=of_decide_eq_true c;refine ⟨_,_,rfl,rfl,_,rfl,?_⟩;cases c8:decide (((xs.length:Nat):Int)<=8) with
  | false =>
   have c2:=of_decide_eq_false c8;refine iteT (no ?_ _ SB.refl)
   rintro ⟨b,e,ok⟩
   have:=ok.len;rw [e,Ye] at xlen;omega
  | true =>
  refine iteF ?_;have c2:=of_decide_eq_true c8;refine ⟨_,rfl,l,rfl,⟨xs,hs⟩,?_⟩;refine for_list (K:=K) (a:=l) (xs:=xs) (fun i σ H2=>SB [] H H2/\(∃ o,σ=[some (.ref l),o,none,none])/\∀ t ∈ ts.take i,KTKd t) ⟨SB.refl,⟨none,rfl⟩,by simp⟩ (fun i σ H2 hi h2=>h2.1.sqL nmn hs) (fun i x σ H2 hx h2=>?_) (fun σ H2 h2=>?_)
  ·obtain ⟨h2,⟨o,rfl⟩,h3⟩:=h2;obtain ⟨t,et,ht⟩:=ha.get hx;have mt:=Qu et;refine ⟨_,rfl,x,t,rfl,zah h2 ht,hf t mt,fun b H3 s3 hb=>?_⟩;refine ⟨_,rfl,?_⟩;cases b with
   | false =>
    refine iteT (no ?_ _ (h2.trans s3))
    rintro ⟨bk,e,ok⟩
    rw [e] at mt;obtain ⟨k,hk,rfl⟩:=Qx mt;obtain ⟨o1,o2,o3⟩:=ok.kd k hk;exact nomatch hb.mpr ⟨k,rfl,o1,o2,fun r hr=>(o3 r hr).1⟩
   | true =>
    refine iteF ⟨h2.trans s3,⟨_,rfl⟩,fun t' ht'=>?_⟩;rw [Yg,et,Option.toList_some] at ht';rcases Qw ht' with h | h
    ·exact h3 t' h
    ·rw [Qy h]; exact hb.mp rfl
  ·obtain ⟨h2,⟨o,rfl⟩,h3⟩:=h2;rw [xlen,Yh] at h3;obtain ⟨bk,et,hk⟩:=zba h3;subst et;rw [Ye] at xlen;have ha2:=(ha.sb h2).kd;have hs2:=h2.sqL nmn hs;refine ⟨_,rfl,l,rfl,⟨xs,hs2⟩,fun D hD=>?_⟩;refine z0i (walk_list (xs:=xs)) hD (by omega) (fun i us _=>us=((Bk.names bk).take i).map V.str) rfl (fun H6 s6=>s6.sqL nmn hs2) (fun _ _ _ _ _ h=>h) (fun Pv i x H6 H' us hi s6 y hR hl6 fin _=>?_) (fun us H6 s6 hD6 hR _=>?_)
   ·obtain ⟨rfl,ex⟩:=y;obtain ⟨k,ek,t,r,zs,rfl,g1,g2,g3,_⟩:=ha2.get ex;refine ⟨rfl,_,rfl,t,_,_,_,rfl,rfl,s6.sqT g1,atI_nat (j:=0) rfl,fin _ _ SB.refl ?_⟩;rw [hR,Yg,List.getElem?_map,ek,Option.map_some,Option.toList_some,Yj]; rfl
   ·rw [xlen,show (Bk.names bk).take bk.length=Bk.names bk by rw [List.take_of_length_le (by simp)]] at hR;subst hR;have s06:=h2.trans s6;refine ⟨_,rfl,D,Bk.names bk,rfl,SqL.of hD6,by rw [Ye]; omega,?_⟩;refine ⟨_,rfl,D,_,rfl,.inl (SqL.of hD6),rfl,_,rfl,?_⟩;have hnd:=z7o (Bk.names bk);rw [show (List.map V.str (Bk.names bk)).length=(Bk.names bk).length from List.length_map ..];by_cases nd:(Bk.names bk).Nodup
    ·rw [hnd.mpr nd,show (!decide (V.int ((Bk.names bk).length:Nat)=V.int ((Bk.names bk).length:Nat)))=false by simp];refine iteF ?_;have ha6:=ha2.sb s6 NoLst.nil;have hs6:=s6.sqL nmn hs2;refine ⟨_,rfl,l,rfl,⟨xs,hs6⟩,fun E1 hE1=>?_⟩;have good:∀ r:Ru,(∃ k ∈ bk,r ∈ k.rs)->RuOk r:=fun r ⟨k,h1,h2⟩=>(hk k h1).2.2 r h2;refine lcG (walk_list (xs:=xs)) (fun i H2=>SB [E1] H6 H2/\∃ bs:List Bool,H2 E1=some (.lst (bs.map V.bl))/\bs=((bk.take i).flatMap fun k=>k.rs.map fun r=>decide (∀ p ∈ Ru.within r,p.1.1 ∈ Bk.names bk))) ⟨SB.new hE1 _,[],Qt,rfl⟩ (fun i H2 hi h2=>(h2.1.drop hE1).sqL nmn hs6) (fun i x H2 H' hi h2 y=>?_) (fun H2 h2=>?_)
     ·obtain ⟨s7,bs,hE7,hbs⟩:=h2;obtain ⟨rfl,ex⟩:=y;obtain ⟨k,ek,t,r,zs,rfl,g1,g2,g3,_⟩:=ha6.get ex;have mk:=Qu ek;have zl:=g3.length;have r4:=(hk k mk).2.1;have s7':=s7.drop hE1;refine ⟨rfl,?_⟩;refine ⟨_,rfl,t,_,_,_,rfl,rfl,s7'.sqT g1,atI_nat (j:=2) rfl,r,rfl,⟨zs,SqL.of (s7'.keep _ _ g2 nmn)⟩,?_⟩;have hsplit:((bk.take (i+1)).flatMap fun k=>k.rs.map fun r=>decide (∀ p ∈ Ru.within r,p.1.1 ∈ Bk.names bk))=((bk.take i).flatMap fun k=>k.rs.map fun r=>decide (∀ p ∈ Ru.within r,p.1.1 ∈ Bk.names bk))++k.rs.map fun r=>decide (∀ p ∈ Ru.within r,p.1.1 ∈ Bk.names bk):=by rw [Yg,ek]; simp
      have hlen:bs.length<=4*i:=by
       rw [hbs];clear hbs hE7 s7 s7' hsplit ex ek
       induction i with
       | zero=>simp
       | succ i ih =>
        rw [Yg,List.flatMap_append,Yf];have:=ih (by omega);cases e:bk[i]? with
        | none=>simp only [Option.toList_none,List.flatMap_nil,List.length_nil]; omega
        | some k2 =>
         have:=(hk k2 (Qu e)).2.1;simp only [Option.toList_some,List.flatMap_cons,List.flatMap_nil,List.append_nil,Ye]; omega
      refine lcG (walk_list (xs:=zs)) (fun j H3=>SB [E1] H6 H3/\∃ bs2:List Bool,H3 E1=some (.lst (bs2.map V.bl))/\bs2=bs++((k.rs.take j).map fun r=>decide (∀ p ∈ Ru.within r,p.1.1 ∈ Bk.names bk))) ⟨s7,bs,hE7,by simp⟩ (fun j H3 hj h3=>(h3.1.drop hE1).sqL nmn (SqL.of g2)) (fun j x H3 H4 hj h3 y=>?_) (fun H3 h3=>?_)
      ·obtain ⟨s8,bs2,hE8,hbs2⟩:=h3;obtain ⟨rfl,ex2⟩:=y;obtain ⟨ru,er,hru⟩:=g3.get ex2;have s8':=s8.drop hE1;have mr:=Qu er;refine ⟨rfl,?_⟩;refine ⟨_,rfl,_,rfl,_,D,ru,Bk.names bk,rfl,z0a s8' _ _ (Ru.noList_enc _) hru,(hk k mk).2.2 ru mr,SqL.of (s8'.keep _ _ hD6 nmn),by rw [Ye]; omega,fun H9 s9=>?_⟩;have hE9:=s9.keep _ _ hE8 nmn;refine ⟨_,hE9,?_,(s8.trans s9.nil).trans (SB.set hE9 (by simp) _),bs2++[decide (∀ p ∈ Ru.within ru,p.1.1 ∈ Bk.names bk)],(by rw [Qt,Yj]; rfl),?_⟩
       ·rw [Ye,hbs2,Yf,Ye,List.length_take];omega
       ·rw [hbs2,Yg,er,Option.toList_some,Yj,<- List.append_assoc];exact rfl
      ·obtain ⟨s8,bs2,hE8,hbs2⟩:=h3;refine ⟨s8,bs2,hE8,?_⟩;rw [hsplit,hbs2,hbs,zl,Yh]
     ·obtain ⟨s7,bs,hE7,hbs⟩:=h2;rw [xlen,Yh] at hbs;refine ⟨E1,bs,rfl,SqL.of hE7,q _ _ (s06.trans (s7.drop hE1)) ?_⟩;rw [hbs];simp only [List.all_flatMap,List.all_map,List.all_eq_true,Function.comp,id_eq,decide_eq_true_eq];constructor
      ·intro h;exact ⟨bk,rfl,by omega,by omega,nd,fun k mk=>⟨(hk k mk).1,(hk k mk).2.1,fun r mr=>⟨(hk k mk).2.2 r mr,h k mk r mr⟩⟩⟩
      ·rintro ⟨b2,e2,ok⟩ k mk r mr
       have e3:=z6z e2;subst e3;exact ((ok.kd k mk).2.2 r mr).2
    ·rw [show (!decide (V.int ((met (Bk.names bk) (Bk.names bk).length).length:Nat)=V.int ((Bk.names bk).length:Nat)))=true by
      rw [Qz (fun z=>by injection z with z; exact nd (hnd.mp (by omega)))]; rfl]
     refine iteT (no ?_ _ s06)
     rintro ⟨b2,e2,ok⟩
     have e3:=z6z e2;subst e3;exact nd ok.nd
 ·have c1:=of_decide_eq_false (Bool.eq_false_iff.mpr c);refine ⟨_,rfl,?_⟩;refine iteT (no ?_ _ SB.refl)
  rintro ⟨b,e,ok⟩
  have:=ok.pos;rw [e,Ye] at xlen;omega
abbrev zd4:List Str:=["thing","name","spreading","rows","row"]
theorem sc_q45:FnScope zd4 ["thing"] (defScope z3s):=⟨rfl,rfl,rfl,by decide +kernel,rfl,by decide +kernel,by decide +kernel⟩
theorem zfl (B:BI mg) (L_MOST_RULES:∃ t,mg "MOST_RULES"=some (.int (4) t)) (G_q48:Got P w K mg base "is_name" ["thing"] (2) (z87 K)) (G_q50:Got P w K mg base "is_rule" ["thing"] (85) (z4u K)) (F:Fun K "is_kind" "is_kind" z3s f fd):FnOk P w K mg base CX0 (86) f fd ["thing"] (z8j K):=by
 refine F.ok sc_q45 (fun vs H Q E h=>?_) (fun cdv A outer s H vs Q E hr h=>?_)
 ·obtain ⟨v,t,rfl,_⟩:=h
  rfl
 obtain ⟨v,t,rfl,th,hf,q⟩:=h;obtain ⟨tk_MOST_RULES,h_MOST_RULES⟩:=L_MOST_RULES;have hun2:=hunT hr;refine ⟨_,Qc (Qr (PW.pt (pw_or (Qp (Qo (z0w B (pv 0) B.tuple boot_tuple))) (pw_or1 (pt_cmpR op_ne (Qs call_len_seq rfl B.len PySem.boot_len (Qa (pv 0) Qb)) Qg (nomark _))))) (Qe (Qj pe_bl)) pss_nil)
  (Qc (ps_asg (pv 0) (pg_tup rfl (Qi (pg_name (i:=1) sc_q45.nd rfl (.inl rfl)) (Qi (pg_name (i:=2) sc_q45.nd rfl (.inl rfl)) (Qi (pg_name (i:=3) sc_q45.nd rfl (.inl rfl)) pgs_nil)))))
  (Qc (Qr (PW.pt (pw_or (Qp (Qo (z00 G_q48 (hr.mono (by omega)) rfl (Qa (pv 1) Qb)))) (pw_or1 (Qp (Qo (z0w B (pv 2) B.bool boot_bool)))))) (Qe (Qj pe_bl)) pss_nil)
  (Qe (Qj (pe_and (z0w B (pv 3) B.list boot_list) (pe_and (pe_cmpR op_le (Qs call_len_seq rfl B.len PySem.boot_len (Qa (pv 3) Qb)) (pe_glob (v:=.int (4)) rfl h_MOST_RULES ⟨_,rfl⟩) (nomark _)) (pe_one (Qs (cr_all rfl) rfl B.all boot_all (Qa (pe_lc (own:=[("row",4)]) (g:=(gName 4)) (tt:=tYes) (te:=(tCall (z4u K) [] E0 (tCons (tVar 4) tNil))) rfl sc_q45.nd (pi_list (pv 3)) (blkOk_by (N:=zd4) (sc:=defScope z3s) (by decide +kernel)) (fun _ _ _ _ _=>(pg_name (i:=4) sc_q45.nd rfl (.inl rfl))) (fun _ _ _ _ _=>pts_nil) (fun _ _ _ _ _=>(z00 G_q50 (hr.mono (by omega)) rfl (Qa (pv 4) Qb)))) Qb))))))))),?_⟩
 have no:¬ KTKd t->∀ H',SB [] H H'->Q (.bl false) H':=fun e H' s'=>q false H' s' ⟨(fun z=>nomatch z),fun z=>absurd z e⟩;cases t with
 | other =>
  have n0:¬ KTKd .other:=by rintro ⟨k,e,_⟩; cases e
  obtain ⟨d,tg,hd⟩:=th;obtain ⟨n1,b,ty,kb,y1,y2⟩:=tg.ty;refine ⟨_,rfl,_,_,n1,b,rfl,ty,kb,b,rfl,?_⟩;cases b with
  | false=>exact iteT (iteT (no n0 _ SB.refl))
  | true =>
  refine iteF ?_;obtain ⟨a,xs,ds,rfl,rfl,hs,ha⟩:=y1 rfl;refine ⟨_,rfl,a,xs,rfl,.inr hs,rfl,_,rfl,?_⟩;have hl:=TgAll.length ha;have h3:=hd ds rfl;rw [show (!decide (V.int (xs.length:Nat)=V.int 3))=true by rw [Qz (fun z=>by injection z with z; omega)]; rfl];exact iteT (no n0 _ SB.refl)
 | three d w rs =>
  obtain ⟨a,x,y,z,rfl,hs,tx,ty,tz⟩:=th;refine ⟨_,rfl,_,_,"tuple",true,rfl,z2h hs,by decide +kernel,_,rfl,?_⟩;refine iteF ?_;refine ⟨_,rfl,a,_,rfl,.inr hs,rfl,_,rfl,?_⟩;rw [show (!decide (V.int (([x,y,z]:List V).length:Nat)=V.int 3))=false from rfl];refine iteF ?_;refine ⟨_,rfl,a,_,rfl,hs,rfl,_,_,rfl,_,_,rfl,_,_,rfl,rfl,?_⟩;refine ⟨_,rfl,x,d,rfl,tx,fun H1 s1=>?_⟩;refine ⟨_,rfl,?_⟩;cases g1:z1a d with
  | false =>
   refine iteT (iteT (no ?_ _ s1))
   rintro ⟨k,e,hk,_⟩
   injection e with e _ _
   rw [e,z8d hk] at g1;cases g1
  | true =>
  refine iteF ?_;obtain ⟨nm,rfl,hnm⟩:=z3a g1;cases w with
  | none =>
   obtain ⟨n,ty,kb⟩:=ty;refine ⟨_,rfl,_,_,n,false,rfl,z2i s1 (fun _ _=>nmn) ty,kb,_,rfl,?_⟩;refine iteT (no ?_ _ s1)
   rintro ⟨k,e,_⟩
   injection e with _ e _
   cases e
  | some bb =>
  have ty:y=.bl bb:=ty;subst ty;refine ⟨_,rfl,_,_,"bool",true,rfl,.base (.bl bb),by decide +kernel,_,rfl,?_⟩;refine iteF ?_;cases rs with
  | none =>
   obtain ⟨n,ty,kb⟩:=tz;refine ⟨_,rfl,_,_,n,false,rfl,z2i s1 (fun _ _=>nmn) ty,kb,_,rfl,?_⟩;refine iteF (no ?_ _ s1)
   rintro ⟨k,e,_⟩
   injection e with _ _ e
   cases e
  | some ds =>
  obtain ⟨l,zs,rfl,hl,ha⟩:=tz;obtain ⟨hd1,hd2⟩:=hf ds rfl;refine ⟨_,rfl,_,_,"list",true,rfl,zez (s1.sqL nmn (SqL.of hl)),by decide +kernel,_,rfl,?_⟩;refine iteT ?_;have hlen:=TgAll.length ha;refine ⟨_,rfl,l,_,rfl,.inl (s1.sqL nmn (SqL.of hl)),_,_,rfl,rfl,_,rfl,?_⟩;refine ite2 (fun c=>?_) (fun c=>?_)
  ·have c1:=of_decide_eq_true c;rw [hlen] at c1;have szl:=sizeLine_eq;refine ⟨_,rfl,l,rfl,⟨_,s1.sqL nmn (SqL.of hl)⟩,fun D hD=>?_⟩;refine z0i (walk_list (xs:=zs)) hD (by omega) (fun i us _=>∃ bs:List Bool,us=bs.map V.bl/\bs.length=i/\∀ j b,bs[j]?=some b->∀ x,ds[j]?=some x->(b=true ↔ RuD x)) ⟨[],rfl,rfl,fun j b h=>by rw [List.getElem?_nil] at h; cases h⟩ (fun H6 s6=>s6.sqL nmn (s1.sqL nmn (SqL.of hl))) (fun _ _ _ _ _ h=>h) (fun Pv i x H6 H' us hi s6 y hR hl6 fin _=>?_) (fun us H6 s6 hD6 hR _=>?_)
   ·obtain ⟨rfl,ex⟩:=y;obtain ⟨p,ep,hp⟩:=TgAll.get ha ex;obtain ⟨bs,rfl,hbl,hbs⟩:=hR;refine ⟨rfl,_,rfl,x,p,rfl,z1p (s1.trans s6) hp,hd2 _ (Qu ep),fun b H7 s7 hb=>fin _ _ s7 ⟨bs++[b],by rw [Yj]; rfl,by rw [Yf,hbl]; rfl,fun j b' hj y hy=>?_⟩⟩;by_cases hji:j < bs.length
    ·rw [List.getElem?_append_left hji] at hj;exact hbs j b' hj y hy
    ·have hj':j=bs.length:=by
      have:=(List.getElem?_eq_some_iff.mp hj).1;rw [Yf,Yi] at this;omega
     subst hj';rw [List.getElem?_append_right (Yc _),Nat.sub_self] at hj;cases hj;rw [hbl,ep] at hy;cases hy;exact hb
   ·obtain ⟨bs,rfl,hbl,hbs⟩:=hR;refine ⟨D,bs,rfl,SqL.of hD6,q _ _ (s1.trans s6) ?_⟩;have h1:(bs.all id=true) ↔ ∀ x ∈ ds,RuD x:=by
     rw [List.all_eq_true];constructor
     ·intro h x hx;obtain ⟨j,hj,e⟩:=List.getElem_of_mem hx;have hjb:j < bs.length:=by omega
      exact (hbs j bs[j] (List.getElem?_eq_getElem hjb) x (by rw [List.getElem?_eq_getElem hj,e])).mp (h _ (List.getElem_mem hjb))
     ·intro h b hb;obtain ⟨j,hj,e⟩:=List.getElem_of_mem hb;have hjb:j < ds.length:=by omega
      exact (hbs j b (by rw [List.getElem?_eq_getElem hj,e]) ds[j] (List.getElem?_eq_getElem hjb)).mpr (h _ (List.getElem_mem hjb))
    rw [h1];constructor
    ·intro h;obtain ⟨rr,e1,e2⟩:=z9j h;exact ⟨⟨nm,bb,rr⟩,by rw [Kd.kt,e1],hnm,by rw [e1,Ye] at c1; show rr.length<=4; omega,e2⟩
    ·rintro ⟨k,e,_,_,hk⟩ x hx
     injection e with _ _ e
     injection e with e
     rw [e] at hx;obtain ⟨r,hr,rfl⟩:=Qx hx;exact ⟨r,rfl,hk r hr⟩
  ·have c1:=of_decide_eq_false (Bool.eq_false_iff.mpr c);rw [hlen] at c1;refine no ?_ _ s1
   rintro ⟨k,e,_,h4,_⟩
   injection e with _ _ e
   injection e with e
   rw [e,Ye] at c1;omega
abbrev zco:List Str:=["thing","once","each","pairs","tree","many"]
theorem sc_q50:FnScope zco ["thing"] (defScope z3z):=⟨rfl,rfl,rfl,by decide +kernel,rfl,by decide +kernel,by decide +kernel⟩
theorem zfy (B:BI mg) (L_MOST_RULE_PARTS:∃ t,mg "MOST_RULE_PARTS"=some (.int (4) t)) (L_MOST_MANY:∃ t,mg "MOST_MANY"=some (.int (1000000000) t)) (G_q44:Got P w K mg base "is_grove" ["thing"] (84) (z1d K 81)) (G_q65:Got P w K mg base "pairs_within" ["grove"] (70) (z1c K 70)) (F:Fun K "is_rule" "is_rule" z3z f fd):FnOk P w K mg base CX0 (85) f fd ["thing"] (z4u K):=by
 refine F.ok sc_q50 (fun vs H Q E h=>?_) (fun cdv A outer s H vs Q E hr h=>?_)
 ·obtain ⟨v,d,rfl,_⟩:=h
  rfl
 obtain ⟨v,d,rfl,th,hf,q⟩:=h;obtain ⟨tk_MOST_RULE_PARTS,h_MOST_RULE_PARTS⟩:=L_MOST_RULE_PARTS;obtain ⟨tk_MOST_MANY,h_MOST_MANY⟩:=L_MOST_MANY;have hun2:=hunT hr;refine ⟨_,Qc (Qr (PW.pt (pw_or (Qp (Qo (z0w B (pv 0) B.tuple boot_tuple))) (pw_or1 (pt_cmpR op_ne (Qs call_len_seq rfl B.len PySem.boot_len (Qa (pv 0) Qb)) Qg (nomark _))))) (Qe (Qj pe_bl)) pss_nil)
  (Qc (ps_asg (pv 0) (pg_tup rfl (Qi (pg_name (i:=1) sc_q50.nd rfl (.inl rfl)) (Qi (pg_name (i:=2) sc_q50.nd rfl (.inl rfl)) pgs_nil))))
  (Qc (Qr (PW.pt (pw_or (Qp (Qo (z00 G_q44 (hr.mono (by omega)) rfl (Qa (pv 1) Qb)))) (pw_or1 (Qp (Qo (z00 G_q44 (hr.mono (by omega)) rfl (Qa (pv 2) Qb))))))) (Qe (Qj pe_bl)) pss_nil)
  (Qc (ps_set (i:=3) sc_q50.nd rfl (.inl rfl) (pe_op op_cat (z00 G_q65 (hr.mono (by omega)) rfl (Qa (pv 1) Qb)) (z00 G_q65 (hr.mono (by omega)) rfl (Qa (pv 2) Qb))))
  (Qe (Qj (pe_and (pe_cmpR op_le (Qs call_len_seq rfl B.len PySem.boot_len (Qa (pv 3) Qb)) (pe_glob (v:=.int (4)) rfl h_MOST_RULE_PARTS ⟨_,rfl⟩) (nomark _)) (pe_one (Qs (cr_all rfl) rfl B.all boot_all (Qa (pe_lc (own:=[("tree",4),("many",5)]) (g:=(gTup K 2 (gCons (gName 4) (gCons (gName 5) gNil)))) (tt:=tYes) (te:=(tOp (rI0 fun i j=>.bl (decide (i<=j))) (tVar 5) (tC (.int (1000000000))))) rfl sc_q50.nd (pi_list (pv 3)) (blkOk_by (N:=zco) (sc:=defScope z3z) (by decide +kernel)) (fun _ _ _ _ _=>(pg_tup rfl (Qi (pg_name (i:=4) sc_q50.nd rfl (.inl rfl)) (Qi (pg_name (i:=5) sc_q50.nd rfl (.inl rfl)) pgs_nil)))) (fun _ _ _ _ _=>pts_nil) (fun _ _ _ _ _=>(pe_cmpR op_le (pv 5) (pe_glob (v:=.int (1000000000)) rfl h_MOST_MANY ⟨_,rfl⟩) (nomark _)))) Qb))))))))),?_⟩
 have no:¬ RuD d->∀ H',SB [] H H'->Q (.bl false) H':=fun e H' s'=>q false H' s' ⟨(fun z=>nomatch z),fun z=>absurd z e⟩;obtain ⟨n1,b,ty,kb,y1,y2⟩:=th.ty;refine ⟨_,rfl,_,_,n1,b,rfl,ty,kb,b,rfl,?_⟩;cases b with
 | false =>
  refine iteT (iteT (no ?_ _ SB.refl))
  rintro ⟨r,e,_⟩
  exact y2 rfl _ e
 | true =>
 refine iteF ?_;obtain ⟨a,xs,ds,rfl,rfl,hs,ha⟩:=y1 rfl;refine ⟨_,rfl,a,xs,rfl,.inr hs,rfl,_,rfl,?_⟩;have hl:=TgAll.length ha;by_cases c2:xs.length=2
 ·rw [show (!decide (V.int (xs.length:Nat)=V.int 2))=false by rw [c2]; rfl];refine iteF ?_;cases ha with
  | nil=>simp at c2
  | cons t1 ta =>
   cases ta with
   | nil=>simp at c2
   | cons t2 ta =>
    cases ta with
    | cons t3 ta=>simp at c2
    | nil =>
     rename_i v1 d1 v2 d2;obtain ⟨f1,f2,f3⟩:=hf;have q1:d1.depth < PyData.depth (.tuple [d1,d2])/\d2.depth < PyData.depth (.tuple [d1,d2]):=by simp only [PyData.depth,PyData.depthAll]; omega
     have q2:wide d1<=wide (.tuple [d1,d2])/\wide d2<=wide (.tuple [d1,d2]):=by simp only [wide,z13]; omega
     refine ⟨_,rfl,a,_,rfl,hs,rfl,_,_,rfl,_,_,rfl,rfl,?_⟩;refine ⟨_,rfl,v1,d1,rfl,t1,by omega,by omega,by omega,fun H1 s1=>?_⟩;refine ⟨_,rfl,?_⟩;cases g1:z0e d1 with
     | false =>
      refine iteT (iteT (no ?_ _ s1));intro z;obtain ⟨g,k,e,z1,_⟩:=z9b z
      injection e with e
      injection e with e _
      rw [e,z1] at g1;cases g1
     | true =>
     refine iteF ?_;refine ⟨_,rfl,v2,d2,rfl,z1p s1 t2,by omega,by omega,by omega,fun H2 s2=>?_⟩;have s02:=s1.trans s2;refine ⟨_,rfl,?_⟩;cases g2:z0e d2 with
     | false =>
      refine iteT (no ?_ _ s02);intro z;obtain ⟨g,k,e,_,z1⟩:=z9b z
      injection e with e
      injection e with _ e
      injection e with e _
      rw [e,z1] at g2;cases g2
     | true =>
     refine iteF ?_;obtain ⟨u1,rfl⟩:=z3h _ g1;obtain ⟨u2,rfl⟩:=z3h _ g2;obtain ⟨w1,w2⟩:=f3 _ _ rfl u1 (.inl rfl);obtain ⟨w3,w4⟩:=f3 _ _ rfl u2 (.inr rfl);have ga1:GA K H v1 u1:=by
      cases t1 with
      | tup h1 h2=>exact .tup h1 (z2t u1 h2)
     have ga2:GA K H v2 u2:=by
      cases t2 with
      | tup h1 h2=>exact .tup h1 (z2t u2 h2)
     refine ⟨_,rfl,_,u1,rfl,ga1.sb s02,by omega,by omega,fun D1 us1 H3 s3 hn1 hD1 hb1=>?_⟩;refine ⟨_,rfl,_,u2,rfl,(ga2.sb s02).sb s3,by omega,by omega,fun D2 us2 H4 s4 hn2 hD2 hb2=>?_⟩;have l1:=hb1.length;have l2:=hb2.length;rw [Gr.within_length] at l1 l2;have szl:=sizeLine_eq;refine ⟨D1,D2,us1,us2,rfl,rfl,s4.keep _ _ hD1 nmn,hD2,by omega,fun D3 hn3=>?_⟩;have t5:=SB.new (ps:=[]) hn3 (.lst (us1++us2));have s05:=((s02.trans s3).trans s4).trans t5;have hD3:upd H4 D3 (.lst (us1++us2)) D3=some (.lst (us1++us2)):=Qt;have hb3:Bears K (upd H4 D3 (.lst (us1++us2))) Gr.pEnc (us1++us2) (u1.within++u2.within):=Bears.append ((hb1.sb s4 Gr.noList_pEnc).sb t5 Gr.noList_pEnc) (hb2.sb t5 Gr.noList_pEnc);generalize upd H4 D3 (.lst (us1++us2))=H5 at t5 s05 hD3 hb3;have iff1:=zdr g1 g2;refine ⟨_,rfl,D3,_,rfl,.inl (SqL.of hD3),_,_,rfl,rfl,_,rfl,?_⟩;refine ite2 (fun c=>?_) (fun c=>?_)
     ·have c1:=of_decide_eq_true c;rw [Yf,l1,l2] at c1;have bl3:=hb3.length;refine ⟨_,rfl,D3,rfl,⟨_,SqL.of hD3⟩,fun D hD=>?_⟩;refine z0i (walk_list (xs:=us1++us2)) hD (by rw [Yf]; omega) (fun i us _=>us=((u1.within++u2.within).take i).map fun p=>V.bl (decide (p.2<=1000000000))) rfl (fun H6 s6=>s6.sqL nmn (SqL.of hD3)) (fun _ _ _ _ _ h=>h) (fun Pv i x H6 H' us hi s6 y hR hl6 fin _=>?_) (fun us H6 s6 hD6 hR _=>?_)
      ·obtain ⟨rfl,ex⟩:=y;obtain ⟨p,ep,hpd⟩:=hb3.get ex;obtain ⟨ad,td,ux,rfl,hs2,hs3,hga,hdt⟩:=z0h hpd;refine ⟨ad,_,rfl,s6.sqT hs2,rfl,_,_,rfl,_,_,rfl,rfl,rfl,?_⟩;refine ⟨_,rfl,_,_,rfl,rfl,fin _ _ SB.refl ?_⟩;rw [hR,Yg,ep,Option.toList_some,Yj]; rfl
      ·rw [bl3,Yh] at hR;subst hR;refine ⟨D,((u1.within++u2.within).map fun p=>decide (p.2<=1000000000)),rfl,SqL.of (by rw [List.map_map]; exact hD6),q _ _ (s05.trans s6) ?_⟩;rw [iff1];simp only [List.all_map,List.all_eq_true,Function.comp,id_eq,decide_eq_true_eq];exact ⟨fun h=>⟨by omega,h⟩,fun h=>h.2⟩
     ·have c1:=of_decide_eq_false (Bool.eq_false_iff.mpr c);rw [Yf,l1,l2] at c1;refine q false _ s05 ⟨(fun z=>nomatch z),fun z=>absurd (iff1.mp z).1 (by omega)⟩
 ·rw [show (!decide (V.int (xs.length:Nat)=V.int 2))=true by rw [Qz (fun z=>by injection z with z; omega)]; rfl];refine iteT (no ?_ _ SB.refl)
  rintro ⟨r,e,_⟩
  have e':PyData.tuple ds=.tuple [r.1.enc,r.2.enc]:=e
  injection e' with e'
  rw [e'] at hl;exact c2 hl
abbrev zcl:List Str:=["rule","names","once","each","tree","many"]
theorem sc_q51:FnScope zcl ["rule","names"] (defScope z3n):=⟨rfl,rfl,rfl,by decide +kernel,rfl,by decide +kernel,by decide +kernel⟩
theorem zg0 (B:BI mg) (G_q65:Got P w K mg base "pairs_within" ["grove"] (70) (z1c K 70)) (F:Fun K "is_rule_of" "is_rule_of" z3n f fd):FnOk P w K mg base CX0 (71) f fd ["rule","names"] (z30 K):=by
 refine F.ok sc_q51 (fun vs H Q E h=>?_) (fun cdv A outer s H vs Q E hr h=>?_)
 ·obtain ⟨v,l,r,ns,rfl,_⟩:=h
  rfl
 obtain ⟨v,l,r,ns,rfl,hv,ho,hs,hn,q⟩:=h;have hun2:=hunT hr;refine ⟨_,Qc (ps_asg (pv 0) (pg_tup rfl (Qi (pg_name (i:=2) sc_q51.nd rfl (.inl rfl)) (Qi (pg_name (i:=3) sc_q51.nd rfl (.inl rfl)) pgs_nil))))
  (Qe (Qj (Qs (cr_all rfl) rfl B.all boot_all (Qa (pe_lc (own:=[("tree",4),("many",5)]) (g:=(gTup K 2 (gCons (gName 4) (gCons (gName 5) gNil)))) (tt:=tYes) (te:=(tOp (rIn K false) (tOp (rIxT K) (tVar 4) (tC (.int 0))) (tVar 1))) rfl sc_q51.nd (pi_list (pe_op op_cat (z00 G_q65 (hr.mono (by omega)) rfl (Qa (pv 2) Qb)) (z00 G_q65 (hr.mono (by omega)) rfl (Qa (pv 3) Qb)))) (blkOk_by (N:=zcl) (sc:=defScope z3n) (by decide +kernel)) (fun _ _ _ _ _=>(pg_tup rfl (Qi (pg_name (i:=4) sc_q51.nd rfl (.inl rfl)) (Qi (pg_name (i:=5) sc_q51.nd rfl (.inl rfl)) pgs_nil)))) (fun _ _ _ _ _=>pts_nil) (fun _ _ _ _ _=>(pe_cmpR op_in_seq (Qm Ql (pv 4) Qg (fun _ _=>rfl)) (pv 1) (by rfl)))) Qb)))),?_⟩
 obtain ⟨ho1,ho2,ho3⟩:=ho;cases (hv:Dp K H v (.tuple [r.1.enc,r.2.enc])) with
 | tup ht hd =>
 rename_i a xs;cases hd with
 | cons g1 hd =>
 cases hd with
 | cons g2 hd =>
 cases hd;have dp1:=(z07 r.1);have dp2:=(z07 r.2);refine ⟨_,rfl,a,_,rfl,ht,rfl,_,_,rfl,_,_,rfl,rfl,?_⟩;have ga1:GA K H _ r.1:=g1;have ga2:GA K H _ r.2:=g2;refine ⟨_,rfl,_,r.1,rfl,ga1,by omega,by omega,fun D1 us1 H3 s3 hn1 hD1 hb1=>?_⟩;refine ⟨_,rfl,_,r.2,rfl,ga2.sb s3,by omega,by omega,fun D2 us2 H4 s4 hn2 hD2 hb2=>?_⟩;have l1:=hb1.length;have l2:=hb2.length;rw [Gr.within_length] at l1 l2;have szl:=sizeLine_eq;refine ⟨D1,D2,us1,us2,rfl,rfl,s4.keep _ _ hD1 nmn,hD2,by omega,fun D3 hn3=>?_⟩;have t5:=SB.new (ps:=[]) hn3 (.lst (us1++us2));have s05:=(s3.trans s4).trans t5;have hD3:upd H4 D3 (.lst (us1++us2)) D3=some (.lst (us1++us2)):=Qt;have hb3:Bears K (upd H4 D3 (.lst (us1++us2))) Gr.pEnc (us1++us2) (r.1.within++r.2.within):=Bears.append ((hb1.sb s4 Gr.noList_pEnc).sb t5 Gr.noList_pEnc) (hb2.sb t5 Gr.noList_pEnc);generalize upd H4 D3 (.lst (us1++us2))=H5 at t5 s05 hD3 hb3;have bl3:=hb3.length;refine ⟨D3,rfl,⟨_,SqL.of hD3⟩,fun D hD=>?_⟩;refine z0i (walk_list (xs:=us1++us2)) hD (by rw [Yf]; omega) (fun i us _=>us=((r.1.within++r.2.within).take i).map fun p=>V.bl (decide (p.1.1 ∈ ns))) rfl (fun H6 s6=>s6.sqL nmn (SqL.of hD3)) (fun _ _ _ _ _ h=>h) (fun Pv i x H6 H' us hi s6 y hR hl6 fin _=>?_) (fun us H6 s6 hD6 hR _=>?_)
 ·obtain ⟨rfl,ex⟩:=y;obtain ⟨p,ep,hpd⟩:=hb3.get ex;obtain ⟨ad,td,ux,rfl,hs2,hs3,hga,hdt⟩:=z0h hpd;refine ⟨ad,_,rfl,s6.sqT hs2,rfl,_,_,rfl,_,_,rfl,rfl,rfl,?_⟩;refine ⟨_,rfl,td,_,_,_,rfl,rfl,s6.sqT hs3,atI_nat (j:=0) rfl,_,rfl,l,_,rfl,.inl ((s05.trans s6).sqL nmn hs),rfl,z1e _,fin _ _ SB.refl ?_⟩;rw [hR,Yg,ep,Option.toList_some,Yj,z1k]; rfl
 ·rw [bl3,Yh] at hR;subst hR;refine ⟨D,((r.1.within++r.2.within).map fun p=>decide (p.1.1 ∈ ns)),rfl,SqL.of (by rw [List.map_map]; exact hD6),?_⟩;have:=q _ (s05.trans s6);rw [show (List.map (fun p:Tr × Int=>decide (p.1.1 ∈ ns)) (r.1.within++r.2.within)).all id=decide (∀ p ∈ Ru.within r,p.1.1 ∈ ns) by
   rw [Bool.eq_iff_iff];simp only [List.all_map,List.all_eq_true,Function.comp,id_eq,decide_eq_true_eq];exact Iff.rfl]
  exact this
abbrev zix:List Str:=["grove","place","tree","row","at"]
theorem sc_q76:FnScope zix ["grove","place"] (defScope z5u):=⟨rfl,rfl,rfl,by decide +kernel,rfl,by decide +kernel,by decide +kernel⟩
theorem zdz {C:Addr} (B:BI mg) (O:Own K mg "NoPlace" C) (GW:Got P w K mg base "is_whole" ["thing"] 1 (z70 K)) (F:Fun K "tree_at" "tree_at" z5u f fd):FnOk P w K mg base (L2.CX P w) 2 f fd ["grove","place"] (z4t K C):=by
 refine F.okX sc_q76 (fun vs H Q E h=>?_) (fun cdv A outer s H vs Q E hr h=>?_)
 ·obtain ⟨v,g,a,xs,os,rfl,_⟩:=h
  rfl
 obtain ⟨v,g,a,xs,os,rfl,hv,hs,hw,q,qE⟩:=h;refine ⟨_,Qc (Qr (Qp (pt_truth (pv 1) (by intro _; rfl))) (Qe (ps_raise rfl (takes_of rfl rfl rfl rfl) (pmk_own PySem.F.excBase_ValueError O.q O.gC O.k (raises_own O.s O.t) rfl))) pss_nil)
  (Qc (ps_set (i:=2) sc_q76.nd rfl (.inl rfl) (pe_tup Qb))
  (Qc (ps_set (i:=3) sc_q76.nd rfl (.inl rfl) (pv 0))
  (Qc (ps_for (passes_of rfl) rfl (pi_tup (pv 1)) (pg_name (i:=4) sc_q76.nd rfl (.inl rfl))
   (Qc (Qr (PW.pt (pw_or (Qp (Qo (z00 GW hr rfl (Qa (pv 4) Qb)))) (pw_or1 (Qp (pt_chain op_le op_lt Qg (pv 4) (Qs call_len_seq rfl B.len PySem.boot_len (Qa (pv 3) Qb)))))))
    (Qe (ps_raise rfl (takes_of rfl rfl rfl rfl) (pmk_own PySem.F.excBase_ValueError O.q O.gC O.k (raises_own O.s O.t) rfl))) pss_nil)
   (Qc (ps_set (i:=2) sc_q76.nd rfl (.inl rfl) (Qm Ql (Qm Ql (pv 3) (pv 4) (fun _ _=>rfl)) Qg (fun _ _=>rfl)))
   (Qe (ps_set (i:=3) sc_q76.nd rfl (.inl rfl) (Qm Ql (pv 2) Qg (fun _ _=>rfl)))))))
  (Qe (Qj (pv 2)))))),?_⟩
 have wl:=hw.length;by_cases hnil:os=[]
 ·have x0:xs=[]:=by rw [hnil] at wl; exact List.length_eq_zero_iff.mp wl
  exact ⟨_,rfl,false,.inr (.inl ⟨xs,hs,by rw [x0]; rfl⟩),iteT (qE (.inl hnil) _ SB.refl)⟩
 have x1:xs ≠ []:=fun z=>hnil (by rw [z] at wl; exact List.length_eq_zero_iff.mp wl.symm);refine ⟨_,rfl,true,.inr (.inl ⟨xs,hs,by cases xs with | nil=>exact absurd rfl x1 | cons _ _=>rfl⟩),iteF ?_⟩;refine ⟨(by show 0<=sizeLine; decide),fun e0 he0=>?_⟩;have t0:=SB.new (ps:=[]) he0 (.tup []);have hv0:=hv.sb t0;have hs0:=t0.sqT hs;have hw':Whs K (upd H e0 (.tup [])) xs os:=Whs.sb t0 hw;generalize hH0:upd H e0 (.tup [])=H0 at t0 hv0 hs0 hw';refine ⟨_,rfl,_,rfl,a,rfl,⟨xs,hs0⟩,?_⟩;refine for_tup (K:=K) (a:=a) (xs:=xs) (fun i σ H2=>H2=H0/\∃ (tv rv:V) (t:Tr) (o4:Option V),σ=[some v,some (.ref a),some tv,some rv,o4]/\lk ("",g) (os.take i)=some t/\GA K H0 rv t.2/\(i=0\/Dp K H0 tv (Gr.tEnc t)))
  ⟨rfl,_,_,("",g),none,rfl,rfl,hv0,.inl rfl⟩ (fun i σ H2 hi h2=>by rw [h2.1]; exact hs0) (fun i x σ H2 hx h2=>?_) (fun σ H2 h2=>?_)
 ·obtain ⟨rfl,tv,rv,t,o4,rfl,hlk,hrv,_⟩:=h2;obtain ⟨o,eo,hwx⟩:=hw'.get hx;have bad:stp t.2 o=none->E (.ref C) none H2:=fun z=>qE (.inr (zd8 hlk eo z)) _ t0;rcases hwx with ⟨n,rfl,rfl⟩ | ⟨rfl,n,b1,b2,ty,k1,k2,k3⟩
  ·refine ⟨_,rfl,_,"int",true,false,rfl,.base (.int n),by decide +kernel,fun _=>by decide +kernel,true,rfl,iteF ?_⟩;obtain ⟨c,ys,rfl,hsc,hbc⟩:=z0u hrv;have yl:=hbc.length;refine ⟨_,rfl,_,_,rfl,rfl,_,rfl,?_⟩;by_cases h0:0<=n
   ·rw [Ya h0];refine iteT ⟨_,rfl,c,ys,rfl,.inr hsc,_,_,rfl,rfl,_,rfl,?_⟩;obtain ⟨m,rfl⟩:∃ m:Nat,n=(m:Int):=⟨n.toNat,by omega⟩;by_cases h1:m < ys.length
    ·rw [show decide ((m:Int) < (ys.length:Nat))=true from Ya (by omega)];refine iteF ?_;obtain ⟨y,hy⟩:∃ y,ys[m]?=some y:=⟨_,List.getElem?_eq_getElem h1⟩;obtain ⟨p,ep,hpd⟩:=hbc.get hy;obtain ⟨ad,bd,ux,rfl,hsx,hst,hdx,hdt⟩:=z0h hpd;refine ⟨_,rfl,_,rfl,c,ys,_,_,rfl,rfl,hsc,atI_nat hy,ad,_,_,_,rfl,rfl,hsx,atI_nat (j:=0) rfl,?_⟩;refine ⟨_,rfl,bd,_,_,_,rfl,rfl,hst,atI_nat (j:=1) rfl,?_⟩;have es:stp t.2 (some (m:Int))=some p.1:=by
      show (if 0<=(m:Int) then (t.2.ps[(m:Int).toNat]?).map (·.1) else none)=_;rw [if_pos h0,Int.toNat_natCast,ep]; rfl
     exact ⟨rfl,_,_,p.1,_,rfl,zdv hlk eo es,hdx,.inr hdt⟩
    ·rw [show decide ((m:Int) < (ys.length:Nat))=false from Qz (by omega)];refine iteT (bad ?_);show (if 0<=(m:Int) then (t.2.ps[(m:Int).toNat]?).map (·.1) else none)=_;rw [if_pos h0,Int.toNat_natCast,List.getElem?_eq_none (by omega)]; rfl
   ·rw [Qz h0];refine iteF ⟨_,rfl,iteT (bad ?_)⟩;show (if 0<=n then (t.2.ps[n.toNat]?).map (·.1) else none)=_;rw [if_neg h0]
  ·refine ⟨_,rfl,_,n,b1,b2,rfl,ty,k1,k2,_,rfl,?_⟩;rw [k3];exact iteT (iteT (bad rfl))
 ·obtain ⟨rfl,tv,rv,t,o4,rfl,hlk,hrv,h3⟩:=h2;rw [wl,Yh] at hlk;refine ⟨_,rfl,q t hnil hlk _ _ t0 ?_⟩;rcases h3 with h3 | h3
  ·exact absurd (List.length_eq_zero_iff.mp h3) x1
  ·exact h3
abbrev zcy:List Str:=["grove","found","at","pair","place"]
theorem sc_q26:FnScope zcy ["grove"] (defScope z3y):=⟨rfl,rfl,rfl,by decide +kernel,rfl,by decide +kernel,by decide +kernel⟩
theorem zc6 {ps:List Str} {k:Nat}:FnOk P w K mg base CX0 k f fd ps (z2k K 0):=z0v fun vs H Q E ⟨v,g,_,_,h,_⟩=>by omega
theorem zel {n:Nat} (B:BI mg) (G_q26:Got P w K mg base "all_places" ["grove"] (n) (z2k K n)) (F:Fun K "all_places" "all_places" z3y f fd):FnOk P w K mg base CX0 (n+1) f fd ["grove"] (z2k K (n+1)):=by
 refine F.ok sc_q26 (fun vs H Q E h=>?_) (fun cdv A outer s H vs Q E hr h=>?_)
 ·obtain ⟨v,g,rfl,_⟩:=h
  rfl
 obtain ⟨v,g,rfl,hv,hd,hd100,hp,q⟩:=h;have hun2:=hunT hr;refine ⟨_,Qc (ps_set (i:=1) sc_q26.nd rfl (.inl rfl) (pe_lst Qb))
  (Qc (ps_for PassesOwn.never rfl (zbn rfl B.enumerate (pv 0)) (pg_tup rfl (Qi (pg_name (i:=2) sc_q26.nd rfl (.inr rfl)) (Qi (pg_name (i:=3) sc_q26.nd rfl (.inl rfl)) pgs_nil)))
   (Qc (ps_expr (pe_bm PySem.F.plainAttrs_list PySem.F.slot_list_append PySem.F.type_list_append mt_append (pv 1) (Qa (pe_tup (Qa (pv 2) Qb)) Qb)))
  (Qe (ps_expr (pe_bm PySem.F.plainAttrs_list PySem.F.slot_list_extend PySem.F.type_list_extend mt_extend (pv 1) (Qa (pe_lc (own:=[("place",4)]) (g:=(gName 4)) (tt:=tYes) (te:=(tOp (zd6 K) (tTup (tCons (tVar 2) tNil)) (tVar 4))) rfl sc_q26.nd (pi_list (z00 G_q26 (hr.mono (by omega)) rfl (Qa (Qm Ql (Qm Ql (pv 3) Qg (fun _ _=>rfl)) Qg (fun _ _=>rfl)) Qb))) (blkOk_by (N:=zcy) (sc:=defScope z3y) (by decide +kernel)) (fun _ _ _ _ _=>(pg_name (i:=4) sc_q26.nd rfl (.inl rfl))) (fun _ _ _ _ _=>pts_nil) (fun _ _ _ _ _=>(pe_op z0y (pe_tup (Qa (pv 2) Qb)) (pv 4)))) Qb))))))
  (Qe (Qj (pv 1)))),?_⟩
 obtain ⟨a,xs,rfl,hs,hb⟩:=z0u hv;have bl:=hb.length;have lenb:=g.ak_len 0;refine ⟨(by show 0<=sizeLine; decide),fun D hD=>?_⟩;refine ⟨_,rfl,a,xs,rfl,(SB.new (ps:=[]) hD _).sqT hs,?_⟩;refine for_it (z9w (xs:=xs)) (fun i σ H2=>SB [D] H H2/\∃ us o2 o3,σ=[some (.ref a),some (.ref D),o2,o3,none]/\H2 D=some (.lst us)/\Bears K H2 z1r us ((Gr.aks (g.ps.take i) 0).map (·.1))) ⟨SB.new hD _,[],none,none,rfl,Qt,.nil⟩ (fun i σ H2 hi h2=>(h2.1.drop hD).sqT hs) (fun i x σ H2 H' hi h2 y=>?_) (fun σ H2 h2=>?_)
 ·obtain ⟨s2,us,o2,o3,rfl,hD2,hb2⟩:=h2;obtain ⟨T,e1,e2,rfl,hT,rfl,ee1,ee2⟩:=y;have he1:e1=.int (i:Nat):=(Yd ee1).symm;subst he1;obtain ⟨p,ep,hpd⟩:=hb.get ee2;have pm:=Qu ep;obtain ⟨ad,td,ux,rfl,hs2,hs3,hga,_⟩:=z0h hpd;have t3:=SB.new (ps:=[D]) hT (.tup [.int (i:Nat),.ref ad]);have hD3:(upd H2 T (.tup [.int (i:Nat),.ref ad])) D=some (.lst us):=by rw [upd_ne (ne_of_none hD2 hT)]; exact hD2
  have hT3:SqT K (upd H2 T (.tup [.int (i:Nat),.ref ad])) T [.int (i:Nat),.ref ad]:=SqT.of Qt;have s3:=s2.trans t3;have hb3:=hb2.sb t3 z0s;generalize hH3:upd H2 T (.tup [.int (i:Nat),.ref ad])=H3 at t3 hD3 hT3 s3 hb3;have ul:=hb3.length;rw [Ye] at ul;have pd:=g.mem_deep p pm;have pp:=g.mem_parts p pm;have hsp:g.ak 0=Gr.aks (g.ps.take i) 0++Gr.akP p i++Gr.aks (g.ps.drop (i+1)) (i+1):=by
   rw [Gr.ak_ps]
   conv=>lhs; rw [<- List.take_append_drop (i+1) g.ps]
   rw [Gr.aks_append,Gr.aks_take ep,List.length_take,Nat.min_eq_left (by omega),Nat.zero_add]
  have hlen:=congrArg List.length hsp;rw [Yf,Yf] at hlen;have hP:(Gr.akP p i).length=1+p.1.2.parts:=by
   unfold Gr.akP;rw [Yk,Ye,Gr.ak_len]; omega
  refine ⟨T,_,rfl,hT3,rfl,_,_,rfl,_,_,rfl,rfl,?_⟩;refine ⟨_,rfl,.inl ⟨rfl,_,SqL.of hD3⟩,_,rfl,(by show 1<=sizeLine; decide),fun t ht=>?_⟩;have t4:=SB.new (ps:=[D]) ht (.tup [.int (i:Nat)]);have hD4:(upd H3 t (.tup [.int (i:Nat)])) D=some (.lst us):=by rw [upd_ne (ne_of_none hD3 ht)]; exact hD3
  refine ⟨D,us,_,rfl,rfl,hD4,z0j (by omega),?_⟩;have t5:=SB.set (ps:=[D]) hD4 (by simp) (.lst (us++[.ref t]));have hD5:(upd (upd H3 t (.tup [.int (i:Nat)])) D (.lst (us++[.ref t]))) D=some (.lst (us++[.ref t])):=Qt;have hb5:=Bears.append ((hb3.sb t4 z0s).sb t5 z0s) (.cons (zcj (p:=[i]) (t5.sqT (SqT.of Qt))) .nil);have s5:=(s3.trans t4).trans t5;generalize hH5:upd (upd H3 t (.tup [.int (i:Nat)])) D (.lst (us++[.ref t]))=H5 at t5 hD5 hb5 s5;have s5':=s5.drop hD;refine ⟨_,rfl,.inl ⟨rfl,_,SqL.of hD5⟩,?_⟩;refine ⟨_,rfl,ad,_,_,_,rfl,rfl,s5'.sqT hs2,atI_nat (j:=0) rfl,td,_,_,_,rfl,rfl,s5'.sqT hs3,atI_nat (j:=1) rfl,_,p.1.2,rfl,hga.sb s5',by omega,by omega,by omega,fun D2 vs2 H6 s6 nD2 hD6 hb6=>?_⟩;have hD6':=s6.keep _ _ hD5 nmn;have vl:=hb6.length;rw [Ye] at vl;have pal:=p.1.2.ak_len 0;refine ⟨D2,rfl,⟨_,SqL.of hD6⟩,fun L hL=>?_⟩;have DL:D ≠ L:=ne_of_none hD6' hL;refine z0i (walk_list (xs:=vs2)) hL (by have:=z0j (n:=vs2.length) (by omega); omega) (fun j ws H7=>Bears K H7 z1r ws (((p.1.2.ak 0).take j).map fun x:Pl × Str=>i::x.1)) .nil (fun H7 s7=>s7.sqL nmn (SqL.of hD6)) (fun _ _ _ _ e h=>h.sb e z0s) (fun Pv j z Hq H7 ws hj s7 yz hR hw fin _=>?_) (fun ws H7 s7 hL7 hR hw=>?_)
  ·obtain ⟨rfl,ez⟩:=yz;obtain ⟨pl,epl,hpl⟩:=hb6.get ez;rw [List.getElem?_map] at epl;obtain ⟨x,ex,rfl⟩:=Option.map_eq_some_iff.mp epl;obtain ⟨pa,rfl,hpa⟩:=z9i hpl;have plong:=p.1.2.ak_long 0 x (Qu ex);refine ⟨rfl,?_⟩;refine ⟨_,rfl,(by show 1<=sizeLine; decide),fun t ht=>?_⟩;have t8:=SB.new (ps:=[]) ht (.tup [.int (i:Nat)]);refine ⟨_,rfl,t,pa,_,_,rfl,rfl,SqT.of Qt,t8.sqT (s7.sqT hpa),?_,fun c H8 s8 hc=>?_⟩
   ·rw [Ye,Yi];have:=z7t (n:=1+x.1.length) (by omega);omega
   refine fin _ _ (t8.trans s8) ?_;rw [Yg,ex,Option.toList_some,Yj];exact Bears.append ((hR.sb t8 z0s).sb s8 z0s) (.cons (zcj (p:=i::x.1) hc) .nil)
  ·rw [vl,Yh] at hR;have wl:=hR.length;rw [Ye] at wl;have hD7:=s7.keep _ _ hD6' nmn;refine ⟨D,L,_,_,rfl,rfl,hD7,hL7,?_,?_⟩
   ·rw [Yf,Yi];have:=z7t (n:=us.length+1+ws.length) (by omega);omega
   have t8:=SB.set (ps:=[D]) hD7 (by simp) (.lst (us++[.ref t]++ws));refine ⟨((s5.trans s6.nil).trans s7.nil).trans t8,_,_,_,rfl,Qt,?_⟩;rw [Gr.aks_take ep,Yj];show Bears _ _ _ _ (_++([i]::((p.1.2.ak 0).map fun x=>(i::x.1,x.2)).map (·.1)));rw [List.map_map,show ∀ A B:List Pl,A++[i]::B=A++[[i]]++B from fun A B=>by simp];exact Bears.append (((hb5.sb s6 z0s).sb s7 z0s).sb t8 z0s) (hR.sb t8 z0s)
 ·obtain ⟨s2,us,o2,o3,rfl,hD2,hb2⟩:=h2;rw [bl,Yh,<- Gr.ak_ps] at hb2;exact ⟨_,rfl,q D us H2 (s2.drop hD) hD hD2 hb2⟩
abbrev zh8:List Str:=["book","name","found","rule","once","each"]
theorem sc_q75:FnScope zh8 ["book","name"] (defScope z57):=⟨rfl,rfl,rfl,by decide +kernel,rfl,by decide +kernel,by decide +kernel⟩
theorem zem {C_Book C_NoKind:Addr} (B:BI mg) (G_q2:z2e P w K mg base C_Book "rules" ["self","name"] (4) (z2w K C_Book C_NoKind)) (G_q74:Got P w K mg base "steps_in" ["name","rule","word","grove"] (21) (z7c K)) (F:Fun K "steps_of" "steps_of" z57 f fd):FnOk P w K mg base (L2.CX P w) (22) f fd ["book","name"] (z7f K C_Book C_NoKind):=by
 refine F.okX sc_q75 (fun vs H Q E h=>?_) (fun cdv A outer s H vs Q E hr h=>?_)
 ·obtain ⟨v,b,n,rfl,_⟩:=h
  rfl
 obtain ⟨v,b,n,rfl,hv,ok,qk,qE⟩:=h;have hun2:=hunT hr;refine ⟨_,Qc (ps_set (i:=2) sc_q75.nd rfl (.inl rfl) (pe_lst Qb))
  (Qc (ps_for (passes_of rfl) rfl (zc4 rfl B.enumerate (z4l G_q2 (hr.mono (by omega)) (takes_of rfl rfl rfl rfl) (pv 0) (Qa (pv 1) Qb))) (pg_tup rfl (Qi (pg_name (i:=3) sc_q75.nd rfl (.inl rfl)) (Qi (pg_tup rfl (Qi (pg_name (i:=4) sc_q75.nd rfl (.inl rfl)) (Qi (pg_name (i:=5) sc_q75.nd rfl (.inl rfl)) pgs_nil))) pgs_nil)))
   (Qc (ps_expr (pe_bm PySem.F.plainAttrs_list PySem.F.slot_list_extend PySem.F.type_list_extend mt_extend (pv 2) (Qa (z00 G_q74 (hr.mono (by omega)) rfl (Qa (pv 1) (Qa (pv 3) (Qa pe_str (Qa (pv 4) Qb))))) Qb)))
  (Qe (ps_expr (pe_bm PySem.F.plainAttrs_list PySem.F.slot_list_extend PySem.F.type_list_extend mt_extend (pv 2) (Qa (z00 G_q74 (hr.mono (by omega)) rfl (Qa (pv 1) (Qa (pv 3) (Qa pe_str (Qa (pv 5) Qb))))) Qb))))))
  (Qe (Qj (pv 2)))),?_⟩
 have szl:=sizeLine_eq;obtain ⟨va,vdx,vd1,vd2,rfl,hva⟩:=hv.at;have b8:=ok.len;have rok:∀ k ∈ b,k.rs.length<=1000:=fun k hk=>by have:=(ok.kd k hk).2.1; omega
 refine ⟨(by show 0<=sizeLine; decide),fun D hD=>?_⟩;have t1:=SB.new (ps:=[]) hD (.lst []);have hD1:upd H D (.lst []) D=some (.lst []):=Qt;generalize upd H D (.lst [])=H1 at t1 hD1;refine ⟨_,rfl,va,vdx,_,rfl,t1.keep _ _ hva nmn,rfl,_,rfl,_,b,n,rfl,hv.sb0 t1,by omega,rok,fun k eg ll us H2 s2 nll hll hbl=>?_,fun z d H' s' nd hd=>qE z d H' (t1.trans s') (Classical.byContradiction fun y=>by
  have:=t1.dom d; exact y (t1.dom d nd)) hd⟩
 obtain ⟨hk,rfl⟩:=Bk.get_some eg;obtain ⟨kn,r4,rr⟩:=ok.kd k hk;have ul:=hbl.length;have lD:ll ≠ D:=fun z=>by rw [z,hD1] at nll; cases nll
 have zl:(k.rs.zipIdx 1).length=k.rs.length:=List.length_zipIdx;have stl:=Kd.steps_len r4 fun r hr=>(rr r hr).1;refine ⟨ll,us,rfl,SqL.of hll,?_⟩;refine for_it (za2 (xs:=us)) (fun i σ H3=>SB [D] H2 H3/\∃ ws o3 o4 o5,σ=[some (.ref va),some (.str k.n),some (.ref D),o3,o4,o5]/\H3 D=some (.lst ws)/\Bears K H3 Sx.enc ws (((k.rs.zipIdx 1).take i).flatMap (stR k.n))) ⟨SB.refl,[],none,none,none,rfl,s2.keep _ _ hD1 nmn,.nil⟩ (fun i σ H3 hi h3=>h3.1.sqL (by simpa using lD) (SqL.of hll)) (fun i x σ H3 H' hi h3 y=>?_) (fun σ H3 h3=>?_)
 ·obtain ⟨s3,ws,o3,o4,o5,rfl,hD3,hb3⟩:=h3;obtain ⟨T,e1,e2,rfl,hT,rfl,ee1,ee2⟩:=y;have he1:e1=.int ((i+1:Nat):Int):=(Yd ee1).symm;subst he1;obtain ⟨r,er,hr1⟩:=hbl.get ee2;have hr2:=z0a s3 _ _ (Ru.noList_enc r) hr1;have ro:=(rr r (Qu er)).1;have ez:(k.rs.zipIdx 1)[i]?=some (r,i+1):=by rw [List.getElem?_zipIdx,er,Nat.add_comm]; rfl
  have hsp:((k.rs.zipIdx 1).take (i+1)).flatMap (stR k.n)=((k.rs.zipIdx 1).take i).flatMap (stR k.n)++stG k.n (i+1) "once" r.1++stG k.n (i+1) "each" r.2:=by
   rw [Yg,ez,List.flatMap_append];simp [stR]
  have hlen:(((k.rs.zipIdx 1).take (i+1)).flatMap (stR k.n)).length<=k.steps.length:=by
   show _<=((k.rs.zipIdx 1).flatMap (stR k.n)).length
   conv=>rhs; rw [<- List.take_append_drop (i+1) (k.rs.zipIdx 1),List.flatMap_append,Yf]
   omega
  rw [hsp,Yf,Yf,z1u,z1u] at hlen;have wl:=hb3.length;cases (hr2:Dp K H3 e2 (.tuple [r.1.enc,r.2.enc])) with
  | @tup ad us' _ hs' hda =>
  cases hda with
  | cons g1 hda =>
  cases hda with
  | cons g2 hda =>
  cases hda;rename_i u1 u2;have t4:=SB.new (ps:=[]) hT (.tup [.int ((i+1:Nat):Int),.ref ad]);have hT4:SqT K (upd H3 T (.tup [.int ((i+1:Nat):Int),.ref ad])) T [.int ((i+1:Nat):Int),.ref ad]:=SqT.of Qt;generalize upd H3 T (.tup [.int ((i+1:Nat):Int),.ref ad])=H4 at t4 hT4;have hD4:=t4.keep _ _ hD3 nmn;refine ⟨T,_,rfl,hT4,rfl,_,_,rfl,_,_,rfl,⟨ad,_,rfl,t4.sqT hs',rfl,_,_,rfl,_,_,rfl,rfl,rfl,?_⟩⟩;have d1:=r.1.deep_parts;have d2:=r.2.deep_parts;refine ⟨_,rfl,.inl ⟨rfl,_,SqL.of hD4⟩,_,rfl,_,rfl,_,rfl,k.n,"once",i+1,u1,r.1,rfl,GA.sb g1 t4,by omega,by omega,fun l1 v1 H5 s5 nl1 hl1 hb5=>?_⟩;have hD5:=s5.keep _ _ hD4 nmn;have v1l:=hb5.length;rw [z1u] at v1l;refine ⟨D,l1,_,_,rfl,rfl,hD5,hl1,by omega,?_⟩;have t6:=SB.set (ps:=[D]) hD5 (by simp) (.lst (ws++v1));have hb6:=Bears.append (((hb3.sb t4 Sx.noList_enc).sb s5 Sx.noList_enc).sb t6 Sx.noList_enc) (hb5.sb t6 Sx.noList_enc);have hD6:upd H5 D (.lst (ws++v1)) D=some (.lst (ws++v1)):=Qt;have s6:=((s3.trans t4.nil).trans s5.nil).trans t6;have g2':=GA.sb (GA.sb g2 t4) s5;have g2':=GA.sb g2' t6;generalize upd H5 D (.lst (ws++v1))=H6 at t6 hb6 hD6 s6 g2';refine ⟨_,rfl,.inl ⟨rfl,_,SqL.of hD6⟩,_,rfl,_,rfl,_,rfl,k.n,"each",i+1,u2,r.2,rfl,g2',by omega,by omega,fun l2 v2 H7 s7 nl2 hl2 hb7=>?_⟩;have hD7:=s7.keep _ _ hD6 nmn;have v2l:=hb7.length;rw [z1u] at v2l;refine ⟨D,l2,_,_,rfl,rfl,hD7,hl2,by rw [Yf]; omega,?_⟩;have t8:=SB.set (ps:=[D]) hD7 (by simp) (.lst (ws++v1++v2));refine ⟨(s6.trans s7.nil).trans t8,_,_,_,_,rfl,Qt,?_⟩;rw [hsp];exact Bears.append ((hb6.sb s7 Sx.noList_enc).sb t8 Sx.noList_enc) (hb7.sb t8 Sx.noList_enc)
 ·obtain ⟨s3,ws,o3,o4,o5,rfl,hD3,hb3⟩:=h3;rw [ul,<- zl,Yh] at hb3;exact ⟨_,rfl,qk k eg D ws H3 ((t1.trans s2).nil.trans s3 |>.drop hD) hD hD3 hb3⟩
abbrev zcu:List Str:=["name","rule","word","grove","place"]
theorem sc_q74:FnScope zcu ["name","rule","word","grove"] (defScope z3l):=⟨rfl,rfl,rfl,by decide +kernel,rfl,by decide +kernel,by decide +kernel⟩
theorem zdy {C_NoPlace:Addr} (B:BI mg) (G_q26:Got P w K mg base "all_places" ["grove"] (20) (z2k K 20)) (G_q76:GotX P w K mg base "tree_at" ["grove","place"] (2) (z4t K C_NoPlace)) (F:Fun K "steps_in" "steps_in" z3l f fd):FnOk P w K mg base CX0 (21) f fd ["name","rule","word","grove"] (z7c K):=by
 refine F.ok sc_q74 (fun vs H Q E h=>?_) (fun cdv A outer s H vs Q E hr h=>?_)
 ·obtain ⟨n,wd,i,v,g,rfl,_⟩:=h
  rfl
 obtain ⟨n,wd,i,v,g,rfl,hv,hd,hp,q⟩:=h;have hun2:=hunT hr;refine ⟨_,Qe (Qj (pe_lc (own:=[("place",4)]) (g:=(gName 4)) (tt:=tYes) (te:=(tTup (tCons (tTup (tCons (tVar 0) (tCons (tVar 1) (tCons (tVar 2) (tCons (tVar 4) tNil))))) (tCons (tOp (rIxT K) (tCall (z4t K C_NoPlace) [] E0 (tCons (tVar 3) (tCons (tVar 4) tNil))) (tC (.int 0))) tNil)))) rfl sc_q74.nd (pi_list (z00 G_q26 (hr.mono (by omega)) rfl (Qa (pv 3) Qb))) (blkOk_by (N:=zcu) (sc:=defScope z3l) (by decide +kernel)) (fun _ _ _ _ _=>(pg_name (i:=4) sc_q74.nd rfl (.inl rfl))) (fun _ _ _ _ _=>pts_nil) (fun _ _ _ _ _=>(pe_tup (Qa (pe_tup (Qa (pv 0) (Qa (pv 1) (Qa (pv 2) (Qa (pv 4) Qb))))) (Qa (Qm Ql (z3t G_q76 (hr.mono (by omega)) rfl (Qa (pv 3) (Qa (pv 4) Qb))) Qg (fun _ _=>rfl)) Qb)))))),?_⟩;have szl:=sizeLine_eq;have lenb:=g.ak_len 0;refine ⟨_,rfl,v,g,rfl,hv,hd,by omega,by omega,fun D us H1 s1 nD hD hb=>?_⟩;have vl:=hb.length;rw [Ye] at vl;refine ⟨D,rfl,⟨_,SqL.of hD⟩,fun L hL=>?_⟩;refine z0i (walk_list (xs:=us)) hL (by omega) (fun j ws H2=>Bears K H2 Sx.enc ws (((g.ak 0).take j).map fun x:Pl × Str=>⟨n,i,wd,x.1,x.2⟩)) .nil (fun H2 s2=>s2.sqL nmn (SqL.of hD)) (fun _ _ _ _ e h=>h.sb e Sx.noList_enc) (fun Pv j z Hq H2 ws hj s2 yz hR hw fin _=>?_) (fun ws H2 s2 hL2 hR hw=>?_)
 ·obtain ⟨rfl,ez⟩:=yz;obtain ⟨pl,epl,hpl⟩:=hb.get ez;rw [List.getElem?_map] at epl;obtain ⟨x,ex,rfl⟩:=Option.map_eq_some_iff.mp epl;obtain ⟨pa,rfl,hpa⟩:=z9i hpl;obtain ⟨n1,t,e1,e2⟩:=g.ak_place x (Qu ex);refine ⟨rfl,?_⟩;refine ⟨_,rfl,_,rfl,_,rfl,_,rfl,(by show 4<=sizeLine; decide),fun T hT=>?_⟩;have t3:=SB.new (ps:=[]) hT (.tup [.str n,.int (i:Int),.str wd,.ref pa]);have s3:=s2.trans t3;have hT3:SqT K (upd H2 T (.tup [.str n,.int (i:Int),.str wd,.ref pa])) T [.str n,.int (i:Int),.str wd,.ref pa]:=SqT.of Qt;generalize upd H2 T (.tup [.str n,.int (i:Int),.str wd,.ref pa])=H3 at t3 s3 hT3;refine ⟨_,rfl,_,rfl,v,g,pa,_,plO x.1,rfl,hv.sb (s1.trans s3),s3.sqT hpa,Whs.pl K H3 x.1,fun t' _ et X H4 s4 hX=>?_,fun z=>?_⟩
  ·obtain rfl:t'=t:=Yd (et.symm.trans e1);cases (hX:Dp K H4 X (.tuple [.str t'.1,t'.2.enc])) with
   | tup hX1 hX2 =>
   cases hX2 with
   | cons k1 hX2 =>
   cases hX2 with
   | cons k2 hX2 =>
   cases hX2;cases k1;refine ⟨_,_,_,_,rfl,rfl,hX1,atI_nat (j:=0) rfl,(by show 2<=sizeLine; decide),fun T2 hT2=>?_⟩;have t5:=SB.new (ps:=[]) hT2 (.tup [.ref T,.str t'.1]);have s25:=(t3.trans s4).trans t5;refine fin _ _ s25 ?_;rw [Yg,ex,Option.toList_some,Yj];refine Bears.append (hR.sb s25 Sx.noList_enc) (.cons ?_ .nil);show Dp K _ _ (.tuple [.tuple [.str n,.int (i:Int),.str wd,z1r x.1],.str x.2]);rw [<- e2];exact .tup (SqT.of Qt) (.cons (.tup ((s4.trans t5).sqT hT3) (.cons (.str _) (.cons (.int _) (.cons (.str _) (.cons (z0a (s2.trans s25) _ _ (z0s _) hpl) .nil))))) (.cons (.str _) .nil))
  ·rcases z with z | z
   ·exact absurd z n1
   ·rw [e1] at z; cases z
 ·rw [vl,Yh] at hR;exact q L ws H2 (s1.trans s2) (s1.dom L hL) hL2 hR
abbrev zcn:List Str:=["book","name","step","kind"]
theorem sc_q59:FnScope zcn ["book","name"] (defScope z42):=⟨rfl,rfl,rfl,by decide +kernel,rfl,by decide +kernel,by decide +kernel⟩
theorem zeb {C_Book C_NoKind:Addr} (B:BI mg) (G_q75:GotX P w K mg base "steps_of" ["book","name"] (22) (z7f K C_Book C_NoKind)) (F:Fun K "leads" "leads" z42 f fd):FnOk P w K mg base (L2.CX P w) (23) f fd ["book","name"] (z6x K C_Book C_NoKind):=by
 refine F.okX sc_q59 (fun vs H Q E h=>?_) (fun cdv A outer s H vs Q E hr h=>?_)
 ·obtain ⟨v,b,n,rfl,_⟩:=h
  rfl
 obtain ⟨v,b,n,rfl,hv,ok,qk,qE⟩:=h;have hun2:=hunT hr;refine ⟨_,Qe (Qj (Qs (z4j rfl) rfl B.sorted (by decide +kernel) (Qa (zaw (own:=[("step",2),("kind",3)]) (g:=(gTup K 2 (gCons (gName 2) (gCons (gName 3) gNil)))) (tt:=tYes) (te:=(tVar 3)) rfl sc_q59.nd (pi_list (z0k G_q75 (hr.mono (by omega)) rfl (takes_of rfl rfl rfl rfl) (Qa (pv 0) (Qa (pv 1) Qb)))) (blkOk_by (N:=zcn) (sc:=defScope z42) (by decide +kernel)) (fun _ _ _ _ _=>(pg_tup rfl (Qi (pg_name (i:=2) sc_q59.nd rfl (.inl rfl)) (Qi (pg_name (i:=3) sc_q59.nd rfl (.inl rfl)) pgs_nil)))) (fun _ _ _ _ _=>pts_nil) (fun _ _ _ _ _=>(pv 3))) Qb))),?_⟩;have scb:1000 < scanBound:=by decide +kernel
 refine ⟨_,rfl,_,rfl,v,b,n,rfl,hv,ok,fun k eg ll us H1 s1 nll hll hbl=>?_,fun z d H' s' nd hd=>qE z d H' s' nd hd⟩;obtain ⟨hk,rfl⟩:=Bk.get_some eg;obtain ⟨kn,r4,rr⟩:=ok.kd k hk;have stl:=Kd.steps_len r4 fun r hr=>(rr r hr).1;have ul:=hbl.length;refine ⟨ll,rfl,⟨_,SqL.of hll⟩,fun D nD=>?_⟩;refine zb9 (walk_list (xs:=us)) nD (by omega) (fun i ss H2=>ss.Nodup/\∀ x,x ∈ ss ↔ x ∈ (k.steps.take i).map Sx.k) ⟨List.nodup_nil,by simp⟩ (fun H2 s2=>s2.sqL nmn (SqL.of hll)) (fun _ _ _ _ _ h=>h) (fun Pv i x Hq H2 ss hi s2 y hR hl fin _=>?_) (fun ss H2 s2 hD2 hR hl=>?_)
 ·obtain ⟨rfl,ey⟩:=y;obtain ⟨st,es,hst⟩:=hbl.get ey;cases (hst:Dp K H1 x (.tuple [st.st,.str st.k])) with
  | @tup ad us' _ hs' hda =>
  cases hda with
  | cons g1 hda =>
  cases hda with
  | cons g2 hda =>
  cases hda;cases g2;refine ⟨ad,_,rfl,s2.sqT hs',rfl,_,_,rfl,_,_,rfl,rfl,rfl,?_⟩;refine ⟨_,rfl,fin st.k _ SB.refl ⟨z6f hR.1,fun x=>?_⟩⟩;rw [z8e,hR.2,Yg,es,Yj,List.mem_append];simp [or_comm]
 ·rw [ul,Yh,Kd.steps_kinds] at hR;refine ⟨D,ss,rfl,hD2,by omega,fun ss' p pm srt np=>?_⟩;have t3:=SB.new (ps:=[]) np (.lst (ss'.map V.str));exact qk k eg p ss' _ ((s1.trans s2).trans t3) ((s1.trans s2).dom _ np) Qt (SrtOf.perm pm srt hR.1 hR.2)
abbrev zct:List Str:=["book","led","ending","fresh","name"]
theorem sc_q36:FnScope zct ["book"] (defScope z49):=⟨rfl,rfl,rfl,by decide +kernel,rfl,by decide +kernel,by decide +kernel⟩
theorem zej {C_Book C_NoKind:Addr} (B:BI mg) (G_q1:GotM P w K mg base C_Book "names" ["self"] (1) (z1z K C_Book)) (G_q59:GotX P w K mg base "leads" ["book","name"] (23) (z6x K C_Book C_NoKind)) (G_q58:Got P w K mg base "lead_into" ["led","ending"] (1) (z5b K)) (F:Fun K "ending_kinds" "ending_kinds" z49 f fd):FnOk P w K mg base CX0 (24) f fd ["book"] (z3i K C_Book C_NoKind):=by
 refine F.ok sc_q36 (fun vs H Q E h=>?_) (fun cdv A outer s H vs Q E hr h=>?_)
 ·obtain ⟨v,b,rfl,_⟩:=h
  rfl
 obtain ⟨v,b,rfl,hv,ok,q⟩:=h;have hun2:=hunT hr;refine ⟨_,Qc (zbj (i:=1) (own:=[("name",4)]) (g:=(gName 4)) (tt:=tYes) (tk:=(tVar 4)) (tv:=(tCall (z6x K C_Book C_NoKind) [] E0 (tCons (tVar 0) (tCons (tVar 4) tNil)))) rfl sc_q36.nd rfl rfl (zbf rfl rfl rfl (by decide +kernel)) (pi_list (z4o G_q1 (hr.mono (by omega)) (pv 0))) (blkOk_by (N:=zct) (sc:=defScope z49) (by decide +kernel)) (fun _ _ _ _ _=>(pg_name (i:=4) sc_q36.nd rfl (.inl rfl))) (fun _ _ _ _ _=>pts_nil) (fun _ _ _ _ _=>(pv 4)) (fun _ _ _ _ _=>(z3t G_q59 (hr.mono (by omega)) rfl (Qa (pv 0) (Qa (pv 4) Qb)))))
  (Qc (ps_set (i:=2) sc_q36.nd rfl (.inl rfl) (pe_lst Qb))
  (Qc (ps_set (i:=3) sc_q36.nd rfl (.inl rfl) (z00 G_q58 (hr.mono (by omega)) rfl (Qa (pv 1) (Qa (pv 2) Qb))))
  (Qc (ps_while PassesOwn.never (pt_truth (pv 3) (by intro _; rfl)) (Qc (ps_expr (pe_bm PySem.F.plainAttrs_list PySem.F.slot_list_extend PySem.F.type_list_extend mt_extend (pv 2) (Qa (pv 3) Qb)))
  (Qe (ps_set (i:=3) sc_q36.nd rfl (.inl rfl) (z00 G_q58 (hr.mono (by omega)) rfl (Qa (pv 1) (Qa (pv 2) Qb)))))))
  (Qe (Qj (pv 2)))))),?_⟩
 have szl:=sizeLine_eq;have b8:=ok.len;have nml:b.names.length=b.length:=List.length_map ..;obtain ⟨va,vdx,vd1,vd2,rfl,hva⟩:=hv.at;refine ⟨_,rfl,va,vdx,_,rfl,hva,rfl,?_⟩;refine ⟨_,b,rfl,hv,by omega,fun nl H1 s1 nn hn=>?_⟩;refine ⟨nl,rfl,⟨_,SqL.of hn⟩,fun D nD=>?_⟩;refine zdb (walk_list (xs:=b.names.map V.str)) nD (by rw [Ye]; omega) (fun i kvs H2=>LedAll K H2 kvs (b.take i)/\∀ p ∈ kvs,p.2 ≠ .ref D) ⟨.nil,by simp⟩ (fun H2 s2=>s2.sqL nmn (SqL.of hn)) (fun i kvs H2 H3 s3 ⟨h1,h2⟩=>⟨h1.sb s3 fun p hp q hq=>by rw [Qy hq]; exact h2 p hp,h2⟩) (fun Pv i x Hq H2 kvs hi s2 y hR hl hD2 fin _=>?_) (fun kvs H2 s2 hD2 hR hl=>?_)
 ·obtain ⟨rfl,ey⟩:=y;rw [List.getElem?_map] at ey;obtain ⟨n,en,rfl⟩:=Option.map_eq_some_iff.mp ey;rw [List.getElem?_map] at en;obtain ⟨k,ek,rfl⟩:=Option.map_eq_some_iff.mp en;have km:=Qu ek;have eg:=Bk.get_self ok.nd km;obtain ⟨h1,h2⟩:=hR;have hnew:∀ p ∈ kvs,p.1 ≠ Sum.inr k.n:=fun p hp z=>by
   have h3:p.1 ∈ (Bk.names (b.take i)).map (Sum.inr (α:=Int)):=by rw [<- h1.keys]; exact List.mem_map.mpr ⟨p,hp,rfl⟩
   rw [z] at h3;obtain ⟨m,hm,e⟩:=Qx h3;have e:=Sum.inr.inj e;subst e;exact z9u ok.nd ek hm
  refine ⟨rfl,_,rfl,_,rfl,_,rfl,_,b,k.n,rfl,(hv.sb0 s1).sb0 s2,ok,fun k' e' l ss H3 s3 nl' hl' so=>?_,fun z=>by rw [eg] at z; cases z⟩;rw [eg] at e';cases e';refine fin (Sum.inr k.n) (.ref l) H3 s3 ?_;rw [z26 hnew,Yg,ek];refine ⟨(h1.sb s3 (by simp)).append (.cons hl' so .nil),fun p hp=>?_⟩;rcases Qw hp with hp | hp
  ·exact h2 p hp
  ·rw [Qy hp];intro z;rw [V.ref.inj z,hD2] at nl';cases nl'
 obtain ⟨hk,hkD⟩:=hR;rw [Ye,nml,Yh] at hk;have s12:=s1.trans s2;refine ⟨by show 0<=sizeLine; decide,fun E nE=>?_⟩;have t3:=SB.new (ps:=[]) nE (.lst []);have hE3:upd H2 E (.lst []) E=some (.lst []):=Qt;have hkE:=hk.ne nE;have hD3:=t3.keep _ _ hD2 nmn;have hk3:=hk.sb t3 (by simp);have s03:=s12.trans t3;have nE0:H E=none:=s12.dom _ nE;have DE:D ≠ E:=ne_of_none hD2 nE;generalize upd H2 E (.lst [])=H3 at t3 hE3 hD3 hk3 s03;refine ⟨_,rfl,_,rfl,D,E,b,[],kvs,rfl,hD3,hk3,hE3,ok,fun F H4 s4 nF hF=>?_⟩;refine z02 ⟨fun m σ H5=>∃ (es:List Str) (F:Addr),m=9-es.length/\σ=[some (.ref va),some (.ref D),some (.ref E),some (.ref F),none]/\SB [] H H5/\H5 D=some (.dK kvs)/\LedAll K H5 kvs b/\H5 E=some (.lst (es.map V.str))/\H5 F=some (.lst ((b.names.filter (into b es)).map V.str))/\F ≠ E/\es.Nodup/\(∀ n ∈ es,n ∈ b.names)/\(∀ n ∈ es,EndK b n)/\∀ (i:Nat) (n:Str),es[i]?=some n->∀ k ∈ adj b n,k ∈ es.take i,
  ⟨9,[],F,rfl,rfl,s03.trans s4,s4.keep _ _ hD3 nmn,hk3.sb s4 (by simp),s4.keep _ _ hE3 nmn,hF,(fun z=>by rw [z,hE3] at nF; cases nF),List.nodup_nil,by simp,by simp,by simp⟩,fun m σ H5 hW=>?_⟩
 obtain ⟨es,F,rfl,rfl,s5,hD5,hk5,hE5,hF5,FE,nd,sub,ends,ord⟩:=hW;have fl:=List.length_filter_le (into b es) b.names;have esl:es.length<=8:=by
  have:=nd.length_le_of_subset (l₂:=b.names) sub;omega
 refine ⟨_,rfl,_,.inl ⟨_,SqL.of hF5,rfl⟩,?_⟩;by_cases hf:b.names.filter (into b es)=[]
 ·rw [hf];refine iteF ⟨_,rfl,q E es H5 s5 nE0 hE5 ⟨nd,esl,fun n=>⟨fun h=>⟨sub n h,ends n h⟩,fun h=>za0 ok hf h.2 h.1⟩,ord⟩⟩
 ·rw [show (!((b.names.filter (into b es)).map V.str).isEmpty)=true by
   cases h:b.names.filter (into b es) with
   | nil=>exact absurd h hf
   | cons _ _=>rfl]
  refine iteT ⟨_,fun σ' H' h=>h,?_⟩;refine ⟨_,rfl,.inl ⟨rfl,_,SqL.of hE5⟩,_,rfl,E,F,_,_,rfl,rfl,hE5,hF5,by rw [Ye,Ye]; omega,?_⟩;rw [<- Yj];have t6:=SB.set (ps:=[E]) hE5 (by simp) (.lst ((es++b.names.filter (into b es)).map V.str));have hE6:upd H5 E (.lst ((es++b.names.filter (into b es)).map V.str)) E=some (.lst ((es++b.names.filter (into b es)).map V.str)):=Qt;have hD6:=t6.keep _ _ hD5 (by simpa using DE);have hk6:=hk5.sb t6 fun p hp q hq=>by rw [Qy hq]; exact hkE p hp
  have s6:SB [] H (upd H5 E (.lst ((es++b.names.filter (into b es)).map V.str))):=((s5.nil (ps:=[E])).trans t6).drop nE0;generalize upd H5 E (.lst ((es++b.names.filter (into b es)).map V.str))=H6 at t6 hE6 hD6 hk6 s6;refine ⟨_,rfl,_,rfl,D,E,b,es++b.names.filter (into b es),kvs,rfl,hD6,hk6,hE6,ok,fun F2 H7 s7 nF2 hF2=>?_⟩;have hpos:0 < (b.names.filter (into b es)).length:=List.length_pos_iff.mpr hf;refine ⟨9-(es++b.names.filter (into b es)).length,by rw [Yf]; omega,es++b.names.filter (into b es),F2,rfl,rfl,s6.trans s7,s7.keep _ _ hD6 nmn,hk6.sb s7 (by simp),s7.keep _ _ hE6 nmn,hF2,(fun z=>by rw [z,hE6] at nF2; cases nF2),?_,fun n hn=>?_,fun n hn=>?_,fun i n ei k hk=>?_⟩
  ·refine List.nodup_append.mpr ⟨nd,ok.nd.filter _,fun x hx y hy e=>?_⟩;subst e;have:=(List.mem_filter.mp hy).2;unfold into at this;rw [Bool.and_eq_true,decide_eq_true_eq] at this;exact this.1 hx
  ·rcases Qw hn with h | h
   ·exact sub n h
   ·exact (List.mem_filter.mp h).1
  ·rcases Qw hn with h | h
   ·exact ends n h
   ·have:=(List.mem_filter.mp h).2;unfold into at this;rw [Bool.and_eq_true,List.all_eq_true] at this;exact .mk fun k hk=>ends k (of_decide_eq_true (this.2 k hk))
  ·rcases Nat.lt_or_ge i es.length with hi | hi
   ·rw [List.getElem?_append_left hi] at ei;rw [List.take_append_of_le_length (by omega)];exact ord i n ei k hk
   ·rw [List.getElem?_append_right hi] at ei;have:=(List.mem_filter.mp (Qu ei)).2;unfold into at this;rw [Bool.and_eq_true,List.all_eq_true] at this;have h3:=of_decide_eq_true (this.2 k hk);rw [List.take_append,List.take_of_length_le hi];exact mal _ h3
abbrev zaa:List Str:=["led","ending","name","kind"]
theorem sc_q58:FnScope zaa ["led","ending"] (defScope z46):=⟨rfl,rfl,rfl,by decide +kernel,rfl,by decide +kernel,by decide +kernel⟩
theorem zeq (B:BI mg) (F:Fun K "lead_into" "lead_into" z46 f fd):FnOk P w K mg base CX0 (1) f fd ["led","ending"] (z5b K):=by
 refine F.ok sc_q58 (fun vs H Q E h=>?_) (fun cdv A outer s H vs Q E hr h=>?_)
 ·obtain ⟨d,e,b,es,kvs,rfl,_⟩:=h
  rfl
 obtain ⟨d,e,b,es,kvs,rfl,hd,hk,he,ok,q⟩:=h;have hun2:=hunT hr;refine ⟨_,Qe (Qj (pe_lock (pe_lc (own:=[("name",2)]) (g:=(gName 2)) (tt:=(tAnd (tTest (tOp (rIn K true) (tVar 2) (tVar 1))) (tB (tCB (rAll K) (tCons (tLc (iList K (tDGet (tVar 0) (tVar 2))) (gName 3) tYes (tOp (rIn K false) (tVar 3) (tVar 1)) [3]) tNil))))) (te:=(tVar 2)) rfl sc_q58.nd (pi_keys (pv 0)) (blkOk_by (N:=zaa) (sc:=defScope z46) (by decide +kernel)) (fun _ _ _ _ _=>(pg_name (i:=2) sc_q58.nd rfl (.inl rfl))) (fun _ _ _ _ _=>(pts_one (PW.pt (pw_and (pt_cmpR op_notIn_seq (pv 2) (pv 1) (by rfl)) (pw_and1 (Qo (Qs (cr_all rfl) rfl B.all boot_all (Qa (pe_lc (own:=[("kind",3)]) (g:=(gName 3)) (tt:=tYes) (te:=(tOp (rIn K false) (tVar 3) (tVar 1))) rfl sc_q58.nd (pi_list (pe_dget (by show A.units+3+1 < cLine; omega) (pv 0) (pv 2) (fun _ _=>rfl))) (blkOk_by (N:=zaa) (sc:={ kind:=.function,names:=[(".0",.local),("name",.local),("all",.globalImplicit),("ending",.cell),("led",.cell)],isGenerator:=false,isCoroutine:=false }) (by decide +kernel)) (fun _ _ _ _ _=>(pg_name (i:=3) sc_q58.nd rfl (.inl rfl))) (fun _ _ _ _ _=>pts_nil) (fun _ _ _ _ _=>(pe_cmpR op_in_seq (pv 3) (pv 1) (by rfl)))) Qb)))))))) (fun _ _ _ _ _=>(pv 2))))),?_⟩;have szl:=sizeLine_eq;have b8:=ok.len;have kl:=hk.length;refine ⟨d,_,hd,trivial,fun od=>?_⟩;have hL:∀ l xs,H l=some (.lst xs)->upd H d (.frz od (.dK kvs)) l=some (.lst xs):=fun l xs h=>by rw [upd_ne (fun z=>by rw [z,hd] at h; cases h)]; exact h
 have hkL:=hk.keep hL;have heL:=hL _ _ he;have hdL:upd H d (.frz od (.dK kvs)) d=some (.frz od (.dK kvs)):=Qt;have un:∀ H',SB [] (upd H d (.frz od (.dK kvs))) H'->SB [] H (upd H' d (.dK kvs)):=fun H' s=>s.unlock hd (fun _ z=>nomatch z) (fun _ _ z=>nomatch z);have dm:∀ p,upd H d (.frz od (.dK kvs)) p=none->H p=none:=fun p h=>by
  have z:p ≠ d:=fun z=>by rw [z,Qt] at h; cases h
  rwa [upd_ne z] at h
 generalize upd H d (.frz od (.dK kvs))=HL at hkL heL hdL un dm;refine ⟨_,rfl,d,od,rfl,.inl ⟨kvs,hdL,fun D nD=>?_⟩⟩;refine z0i walk_keys nD (by omega) (fun i us _=>us=((b.names.take i).filter (into b es)).map V.str) rfl (fun H2 s2=>s2.frzs _ _ _ hdL) (fun _ _ _ _ _ h=>h) (fun Pv i x Hq H2 us hi s2 y hR hu fin skip=>?_) (fun us H2 s2 hD2 hR hu=>?_)
 ·obtain ⟨rfl,k0,v0,ek,rfl⟩:=y;obtain ⟨kd,ekd,e0⟩:=hk.get ek;have e0:k0=Sum.inr kd.n:=e0;subst e0;have km:=Qu ekd;have ea:=z1b ok km;obtain ⟨l,ss,hv,hl,so⟩:=hkL.val (Bk.get_self ok.nd km);have en:b.names[i]?=some kd.n:=by rw [List.getElem?_map,ekd]; rfl
  have he2:=s2.keep _ _ heL nmn;have hl2:=s2.keep _ _ hl nmn;have hd2:=s2.frzs _ _ _ hdL;have hstep:((b.names.take (i+1)).filter (into b es)).map V.str=((b.names.take i).filter (into b es)).map V.str++(if into b es kd.n=true then [V.str kd.n] else []):=by
   rw [Yg,en,List.filter_append,Yj]
   congr 1
   by_cases z:into b es kd.n=true
   ·simp [z]
   ·simp [z]
  refine ⟨rfl,_,rfl,_,rfl,e,_,rfl,.inl (SqL.of he2),rfl,z1e _,_,rfl,?_⟩;rw [if_pos rfl];show if (!inV (.str kd.n) (es.map V.str))=true then _ else _;rw [z1k];by_cases h1:kd.n ∈ es
  ·rw [show (!decide (kd.n ∈ es))=false by simp [h1]];refine iteF (skip _ SB.refl ?_);rw [hstep,show into b es kd.n=false by simp [into,h1],hR]; simp
  ·rw [show (!decide (kd.n ∈ es))=true by simp [h1]];refine iteT ?_;have sl:ss.length < 1000:=by
    have h2:=so.nd.length_le_of_subset (l₂:=b.names) fun x hx=>ok.led km x ((so.mem x).mp hx);rw [Ye] at h2;omega
   refine ⟨_,rfl,_,rfl,d,.ref l,rfl,zgz (.inr ⟨_,hd2⟩) hv,l,rfl,⟨_,SqL.of hl2⟩,fun D2 nD2=>?_⟩;refine z0i (walk_list (xs:=ss.map V.str)) nD2 (by rw [Ye]; omega) (fun j us _=>us=((ss.take j).map fun k=>decide (k ∈ es)).map V.bl) rfl (fun H4 s4=>s4.sqL nmn (SqL.of hl2)) (fun _ _ _ _ _ h=>h) (fun Pv j z Hq H4 us4 hj s4 y hR4 hu4 fin4 _=>?_) (fun us4 H4 s4 hD4 hR4 hu4=>?_)
   ·obtain ⟨rfl,ez⟩:=y;rw [List.getElem?_map] at ez;obtain ⟨sx,ex,rfl⟩:=Option.map_eq_some_iff.mp ez;refine ⟨rfl,_,rfl,_,rfl,e,_,rfl,.inl (SqL.of (s4.keep _ _ he2 nmn)),rfl,z1e _,?_⟩;refine fin4 _ _ SB.refl ?_;rw [hR4,Yg,ex];simp [z1k]
   ·subst hR4;refine ⟨D2,_,rfl,SqL.of hD4,_,rfl,?_⟩;have eall:((ss.take (ss.map V.str).length).map fun k=>decide (k ∈ es)).all id=(adj b kd.n).all fun k=>decide (k ∈ es):=by
     rw [Ye,Yh,List.all_map,ea,<- zdk so]; rfl
    rw [eall];have ei:into b es kd.n=(adj b kd.n).all fun k=>decide (k ∈ es):=by unfold into; simp [h1]
    by_cases h3:((adj b kd.n).all fun k=>decide (k ∈ es))=true
    ·rw [h3];refine iteT ⟨_,rfl,fin _ _ s4 ?_⟩;rw [hstep,ei,h3,hR]; rfl
    ·have h3:((adj b kd.n).all fun k=>decide (k ∈ es))=false:=by simpa using h3
     rw [h3];refine iteF (skip _ s4 ?_);rw [hstep,ei,h3,hR]; simp
 ·subst hR;have hd2:=s2.frzs _ _ _ hdL;have Dd:D ≠ d:=fun z=>by rw [z,hdL] at nD; cases nD
  refine ⟨hd2,q D _ (un _ s2) (dm _ nD) ?_⟩;rw [upd_ne Dd,hD2,kl,<- show b.names.length=b.length from List.length_map ..,Yh]
abbrev zd2:List Str:=["book","ending","name"]
theorem sc_q37:FnScope zd2 ["book"] (defScope z41):=⟨rfl,rfl,rfl,by decide +kernel,rfl,by decide +kernel,by decide +kernel⟩
theorem zf7 {C_Book C_NoKind:Addr} (B:BI mg) (G_q36:Got P w K mg base "ending_kinds" ["book"] (24) (z3i K C_Book C_NoKind)) (G_q1:GotM P w K mg base C_Book "names" ["self"] (1) (z1z K C_Book)) (F:Fun K "endless_kinds" "endless_kinds" z41 f fd):FnOk P w K mg base CX0 (25) f fd ["book"] (z76 K C_Book C_NoKind):=by
 refine F.ok sc_q37 (fun vs H Q E h=>?_) (fun cdv A outer s H vs Q E hr h=>?_)
 ·obtain ⟨v,b,rfl,_⟩:=h
  rfl
 obtain ⟨v,b,rfl,hv,ok,q⟩:=h;have hun2:=hunT hr;refine ⟨_,Qc (ps_set (i:=1) sc_q37.nd rfl (.inr rfl) (z00 G_q36 (hr.mono (by omega)) rfl (Qa (pv 0) Qb)))
  (Qe (Qj (Qs cr_sortedS rfl B.sorted (by decide +kernel) (Qa (pe_lc (own:=[("name",2)]) (g:=(gName 2)) (tt:=(tTest (tOp (rIn K true) (tVar 2) (tVar 1)))) (te:=(tVar 2)) rfl sc_q37.nd (pi_list (z4o G_q1 (hr.mono (by omega)) (pv 0))) (blkOk_by (N:=zd2) (sc:=defScope z41) (by decide +kernel)) (fun _ _ _ _ _=>(pg_name (i:=2) sc_q37.nd rfl (.inl rfl))) (fun _ _ _ _ _=>(pts_one (pt_cmpR op_notIn_seq (pv 2) (pv 1) (by rfl)))) (fun _ _ _ _ _=>(pv 2))) Qb)))),?_⟩
 have szl:=sizeLine_eq;have b8:=ok.len;refine ⟨_,rfl,v,b,rfl,hv,ok,fun l es H1 s1 nl hl eo=>?_⟩;have el:=eo.len;have hm:∀ n ∈ b.names,n ∈ es ↔ EndK b n:=fun n hn=>⟨fun h=>((eo.mem n).mp h).2,fun h=>(eo.mem n).mpr ⟨hn,h⟩⟩;obtain ⟨va,vdx,vd1,vd2,rfl,hva⟩:=hv.at;refine ⟨_,rfl,va,vdx,_,rfl,s1.keep _ _ hva nmn,rfl,?_⟩;refine ⟨_,b,rfl,hv.sb0 s1,by omega,fun nl2 H2 s2 nn hn=>?_⟩;have hl2:=s2.keep _ _ hl nmn;refine ⟨nl2,rfl,⟨_,SqL.of hn⟩,fun D nD=>?_⟩;have nml:b.names.length=b.length:=List.length_map ..;refine z0i (walk_list (xs:=b.names.map V.str)) nD (by rw [Ye]; omega) (fun i us _=>us=((b.names.take i).filter fun n=>decide (n ∉ es)).map V.str) rfl (fun H3 s3=>s3.sqL nmn (SqL.of hn)) (fun _ _ _ _ _ h=>h) (fun Pv i x Hq H3 us hi s3 y hR hu fin skip=>?_) (fun us H3 s3 hD3 hR hu=>?_)
 ·obtain ⟨rfl,ey⟩:=y;rw [List.getElem?_map] at ey;obtain ⟨n,en,rfl⟩:=Option.map_eq_some_iff.mp ey;refine ⟨rfl,_,rfl,_,rfl,l,_,rfl,.inl (SqL.of (s3.keep _ _ hl2 nmn)),rfl,z1e _,_,rfl,?_⟩;rw [if_pos rfl,z1k];have hstep:((b.names.take (i+1)).filter fun n=>decide (n ∉ es)).map V.str=((b.names.take i).filter fun n=>decide (n ∉ es)).map V.str++(if n ∉ es then [V.str n] else []):=by
   rw [Yg,en,List.filter_append,Yj]
   congr 1
   by_cases z:n ∈ es
   ·simp [z]
   ·simp [z]
  by_cases h1:n ∈ es
  ·rw [show (!decide (n ∈ es))=false by simp [h1]];refine iteF (skip _ SB.refl ?_);rw [hstep,if_neg (by simp [h1]),hR]; simp
  ·rw [show (!decide (n ∈ es))=true by simp [h1]];refine iteT ⟨_,rfl,fin _ _ SB.refl ?_⟩;rw [hstep,if_pos h1,hR]
 ·rw [Ye,Yh] at hR;subst hR;refine ⟨D,_,rfl,SqL.of hD3,?_,fun ys p pm srt np=>?_⟩
  ·have:=List.length_filter_le (fun n=>decide (n ∉ es)) b.names;omega
  have s03:=(s1.trans s2).trans s3;refine q p ys _ (s03.trans (SB.new (ps:=[]) np _)) (s03.dom _ np) Qt srt (pm.nodup_iff.mpr (ok.nd.filter _)) fun n=>?_;rw [pm.mem_iff,List.mem_filter];simp only [decide_eq_true_eq];exact ⟨fun ⟨h1,h2⟩=>⟨h1,fun z=>h2 ((hm n h1).mpr z)⟩,fun ⟨h1,h2⟩=>⟨h1,fun z=>h2 ((hm n h1).mp z)⟩⟩
abbrev zgy:List Str:=["book","grove","endless","kind"]
theorem sc_q32:FnScope zgy ["book","grove"] (defScope z5x):=⟨rfl,rfl,rfl,by decide +kernel,rfl,by decide +kernel,by decide +kernel⟩
theorem zfp {C_Endless C_Book C_NoKind:Addr} (B:BI mg) (O_Endless:OwnI P w K mg base "Endless" C_Endless 1) (G_q37:Got P w K mg base "endless_kinds" ["book"] (25) (z76 K C_Book C_NoKind)) (G_q55:Got P w K mg base "kinds_within" ["grove"] (71) (z4y K)) (F:Fun K "check_ends" "check_ends" z5x f fd):FnOk P w K mg base (L2.CX P w) (72) f fd ["book","grove"] (z77 K C_Book C_NoKind):=by
 refine F.okX sc_q32 (fun vs H Q E h=>?_) (fun cdv A outer s H vs Q E hr h=>?_)
 ·obtain ⟨v,w,b,g,rfl,_⟩:=h
  rfl
 obtain ⟨v,w,b,g,rfl,hv,ok,hg,hd,hp,hk,he,q⟩:=h;have hun2:=hunT hr;refine ⟨_,Qc (ps_set (i:=2) sc_q32.nd rfl (.inl rfl) (z00 G_q37 (hr.mono (by omega)) rfl (Qa (pv 0) Qb)))
  (Qe (ps_for (passes_of rfl) rfl (pi_list (z00 G_q55 (hr.mono (by omega)) rfl (Qa (pv 1) Qb))) (pg_name (i:=3) sc_q32.nd rfl (.inl rfl))
   (Qe (Qr (pt_cmpR op_in_seq (pv 3) (pv 2) (by rfl)) (Qe (ps_raise rfl (takes_of rfl rfl rfl rfl) (z80 O_Endless (hr.mono (by omega)) rfl (pv 3)))) pss_nil)))),?_⟩
 refine ⟨_,rfl,v,b,rfl,hv,ok,fun l ss H1 s1 nl hl srt nd hm=>?_⟩;refine ⟨_,rfl,w,g,b.names,rfl,hg.sb s1,hd,hp,hk,by rw [Ye]; have:=ok.len; omega,fun l2 ss2 H2 s2 nl2 hl2 so sl=>?_⟩;refine ⟨l2,rfl,⟨_,SqL.of hl2⟩,?_⟩;have hl3:=s2.keep _ _ hl nmn;have ne:l ≠ l2:=fun z=>by rw [<- z,hl] at nl2; cases nl2
 refine for_it (walk_list (xs:=ss2.map V.str)) (fun i σ H3=>SB [] H2 H3/\∃ o3,σ=[some v,some w,some (.ref l),o3]) ⟨SB.refl,none,rfl⟩ (fun i σ H3 hi h3=>h3.1.sqL nmn (SqL.of hl2)) (fun i x σ Hq H3 hi h3 y=>?_) (fun σ H3 h3=>?_)
 ·obtain ⟨s3,o3,rfl⟩:=h3;obtain ⟨rfl,ey⟩:=y;rw [List.getElem?_map] at ey;obtain ⟨k,ek,rfl⟩:=Option.map_eq_some_iff.mp ey;obtain ⟨p,hp2,e⟩:=Qx ((so.mem k).mp (Qu ek));have kend:EndK b k:=e ▸ he p hp2;refine ⟨_,rfl,_,rfl,l,_,rfl,.inl (SqL.of (s3.keep _ _ hl3 nmn)),rfl,z1e _,?_⟩;rw [z1k,show decide (k ∈ ss)=false from Qz fun z=>((hm k).mp z).2 kend];exact ⟨_,rfl,iteF ⟨s3,_,rfl⟩⟩
 ·obtain ⟨s3,o3,rfl⟩:=h3;exact q _ ((s1.trans s2).trans s3)
end
section
variable {P:Program} {w:World} {K:Qn} {mg:Str->Option Value} {base:Heap} {f:Addr} {fd:FuncData} {ps:List Addr}
theorem zgf:FnScope ["many"] ["many"] (defScope z5a):=⟨rfl,rfl,rfl,by decide +kernel,rfl,by decide +kernel,by decide +kernel⟩
theorem zg4 (F:Fun K "number" "number" z5a f fd):FnOk P w K mg base CX0 1 f fd ["many"] (z8h K):=by
 refine F.ok zgf (fun vs H Q E h=>?_) (fun cdv A outer s H vs Q E hr h=>?_)
 ·obtain ⟨v,rfl,_⟩:=h
  rfl
 obtain ⟨i,rfl,q⟩:=h;refine ⟨_,Qc (Qr (pt_cmpR op_eq (pv 0) Qg (nomark _)) (Qe (Qj (pe_tup Qb))) pss_nil)
  (Qe (Qj (pe_tup (Qa (pe_tup (Qa (pe_tup Qb) (Qa (pv 0) Qb))) Qb)))),?_⟩
 refine ⟨_,rfl,rfl,_,rfl,?_⟩;refine ite2 (fun c=>?_) (fun c=>?_)
 ·have c':V.int i=V.int 0:=of_decide_eq_true c
  injection c' with c'
  subst c';refine ⟨(by show 0<=sizeLine; decide),fun p hp=>?_⟩;exact q _ _ (SB.new hp _) (z10 (SqT.of Qt))
 ·have c':¬ V.int i=V.int 0:=of_decide_eq_false (Bool.eq_false_iff.mpr c);have c2:¬ i=0:=fun z=>c' (by rw [z]);refine ⟨(by show 0<=sizeLine; decide),fun p1 h1=>?_⟩;refine ⟨_,rfl,(by show 2<=sizeLine; decide),fun p2 h2=>?_⟩;refine ⟨(by show 1<=sizeLine; decide),fun p3 h3=>?_⟩;have e1:SB [] H (upd H p1 (.tup [])):=SB.new h1 _;have e2:=SB.new (ps:=[]) h2 (.tup [.ref p1,.int i]);have e3:=SB.new (ps:=[]) h3 (.tup [.ref p2]);refine q _ _ (e1.trans (e2.trans e3)) ?_;have e:Lad.num i=.cons .nil i .nil:=if_neg c2;rw [e];exact z3j (SqT.of Qt) (e3.sqT (SqT.of Qt)) ((z10 (SqT.of Qt)).sb (e2.trans e3))
end
section
variable {P:Program} {w:World} {K:Qn} {mg:Str->Option Value} {base:Heap} {f:Addr} {fd:FuncData} {ps:List Addr}
theorem zg6:FnScope ["one","other"] ["one","other"] (defScope z3m):=⟨rfl,rfl,rfl,by decide +kernel,rfl,by decide +kernel,by decide +kernel⟩
theorem zf6 (F:Fun K "is_less" "is_less" z3m f fd):FnOk P w K mg base CX0 1 f fd ["one","other"] (z1g K):=by
 refine F.ok zg6 (fun vs H Q E h=>?_) (fun cdv A outer s H vs Q E hr h=>?_)
 ·obtain ⟨v,u,l,k,rfl,_⟩:=h
  rfl
 obtain ⟨v,u,l,k,rfl,hv,hu,hd,q⟩:=h;refine ⟨_,Qe (Qj (pe_cmpR (zb1 (by have:=hr.un; show A.units+3+100 < cLine; have h3:(A.deeper (envOfC "is_less" (defScope z3m) s.heap.objs.size f cdv)).units=A.units+3:=rfl; omega)) (pv 0) (pv 1) (nomark _))),?_⟩;have:=l.enc_depth;exact ⟨_,rfl,_,rfl,l.enc,k.enc,hv,hu,l.alike_enc k,l.enc_ne,by omega,q⟩
end
section
variable {P:Program} {w:World} {K:Qn} {mg:Str->Option Value} {base:Heap} {f:Addr} {fd:FuncData}
theorem sc_q25:FnScope ["one","other","at"] ["one","other"] (defScope z5f):=⟨rfl,rfl,rfl,by decide +kernel,rfl,by decide +kernel,by decide +kernel⟩
theorem zfa (B:BI mg) (F:Fun K "alike_ahead" "alike_ahead" z5f f fd):FnOk P w K mg base CX0 1 f fd ["one","other"] (z91 K):=by
 refine F.ok sc_q25 (fun vs H Q E h=>?_) (fun cdv A outer s H vs Q E hr h=>?_)
 ·obtain ⟨v,u,l,k,rfl,_⟩:=h
  rfl
 obtain ⟨v,u,l,o,rfl,hv,hu,hd,hd2,hp,hp2,q⟩:=h;have hun2:=hunT hr;refine ⟨_,Qc (ps_set (i:=2) sc_q25.nd rfl (.inl rfl) Qg)
  (Qc (ps_while PassesOwn.never (PW.pt (pw_and (pt_cmpR op_lt (pv 2) (Qs (call_min2 rfl) rfl B.min boot_min (Qa (Qs call_len_seq rfl B.len PySem.boot_len (Qa (pv 0) Qb)) (Qa (Qs call_len_seq rfl B.len PySem.boot_len (Qa (pv 1) Qb)) Qb))) (nomark _)) (pw_and1 (pt_cmpR (op_eqD (by show A.units+3+64 < cLine; omega)) (Qm Ql (pv 0) (pv 2) (fun _ _=>rfl)) (Qm Ql (pv 1) (pv 2) (fun _ _=>rfl)) (nomark _)))))
   (Qe (ps_aug (i:=2) sc_q25.nd rfl (.inl rfl) Qg ip_add)))
  (Qe (Qj (pv 2)))),?_⟩
 obtain ⟨a,xs,rfl,hsa,hba⟩:=z05 hv;obtain ⟨b,ys,rfl,hsb,hbb⟩:=z05 hu;have xl:=hba.length;have yl:=hbb.length;refine ⟨fun mm σ H2=>∃ k:Nat,mm=l.ps.length-k/\H2=H/\σ=[some (.ref a),some (.ref b),some (.int (k:Int))]/\k<=l.ps.length/\k<=o.ps.length/\l.alh o=k+(Lad.ofPs (l.ps.drop k)).alh (Lad.ofPs (o.ps.drop k)),⟨_,0,rfl,rfl,rfl,Nat.zero_le _,Nat.zero_le _,by rw [List.drop_zero,List.drop_zero,Lad.ofPs_ps,Lad.ofPs_ps,Nat.zero_add]⟩,fun mm σ H2 h2=>?_⟩;obtain ⟨k,rfl,rfl,rfl,kl,ko,he⟩:=h2;refine ⟨_,rfl,_,rfl,a,xs,rfl,.inr hsa,_,rfl,b,ys,rfl,.inr hsb,_,_,rfl,_,_,rfl,rfl,_,rfl,?_⟩;have fin:¬ (k < l.ps.length/\k < o.ps.length)->Q (.int (k:Nat)) H2:=fun hh=>by
  rw [Lad.alh_end hh,Nat.add_zero] at he;rw [<- he]; exact q
 by_cases hlt:k < l.ps.length/\k < o.ps.length
 ·have c1:decide ((k:Int) < (if ((ys.length:Nat):Int) < (xs.length:Nat) then ((ys.length:Nat):Int) else (xs.length:Nat)))=true:=Ya (by split <;> omega);rw [c1];refine iteT ?_;have hxk:xs[k]?=some xs[k]:=List.getElem?_eq_getElem (by omega);have hyk:ys[k]?=some ys[k]:=List.getElem?_eq_getElem (by omega);obtain ⟨p1,ep1,hp1⟩:=hba.get hxk;obtain ⟨p2,ep2,hp2'⟩:=hbb.get hyk;have d1:=l.mem_deep p1 (Qu ep1);have d2:=o.mem_deep p2 (Qu ep2);rw [Lad.alh_drop ep1 ep2] at he;refine ⟨_,rfl,_,rfl,a,xs,_,_,rfl,rfl,hsa,atI_nat hxk,_,rfl,_,rfl,b,ys,_,_,rfl,rfl,hsb,atI_nat hyk,Lad.pEnc p1,Lad.pEnc p2,hp1,hp2',Lad.shaped_pEnc (by omega),Lad.shaped_pEnc (by omega),_,rfl,?_⟩;rw [Lad.eqv_pEnc];by_cases hh:p1.1=p2.1/\p1.2=p2.2
  ·rw [show (decide (p1.1=p2.1)&&decide (p1.2=p2.2))=true by simp [hh.1,hh.2]];refine iteT ?_;rw [if_pos hh] at he;refine ⟨_,fun σ' H' z=>z,?_⟩;exact ⟨_,rfl,_,_,rfl,rfl,l.ps.length-(k+1),by omega,k+1,rfl,rfl,rfl,by omega,by omega,by omega⟩
  ·rw [show (decide (p1.1=p2.1)&&decide (p1.2=p2.2))=false by
    rw [Bool.and_eq_false_iff];by_cases h1:p1.1=p2.1
    ·exact .inr (Qz fun h2=>hh ⟨h1,h2⟩)
    ·exact .inl (Qz h1)]
   refine iteF ?_;rw [if_neg hh,Nat.add_zero] at he;refine ⟨_,rfl,?_⟩;rw [<- he]; exact q
 ·have c1:decide ((k:Int) < (if ((ys.length:Nat):Int) < (xs.length:Nat) then ((ys.length:Nat):Int) else (xs.length:Nat)))=false:=Qz (by split <;> omega);rw [c1];refine iteF ?_;exact ⟨_,rfl,fin hlt⟩
abbrev zch:List Str:=["one","other","exponent","many","kept","alike","pair"]
theorem sc_q30:FnScope zch ["one","other"] (defScope z4d):=⟨rfl,rfl,rfl,by decide +kernel,rfl,by decide +kernel,by decide +kernel⟩
theorem zgk (B:BI mg) (GL:Got P w K mg base "is_less" ["one","other"] 1 (z1g K)) (GM:Got P w K mg base "many_at" ["pairs","thing"] 1 (z52 K)) (F:Fun K "behind" "behind" z4d f fd):FnOk P w K mg base CX0 2 f fd ["one","other"] (z20 K):=by
 refine F.ok sc_q30 (fun vs H Q E h=>?_) (fun cdv A outer s H vs Q E hr h=>?_)
 ·obtain ⟨v,u,l,k,rfl,_⟩:=h
  rfl
 obtain ⟨v,u,l,k,rfl,hv,hu,hd,hd2,hp,hp2,q⟩:=h;refine ⟨_,Qc (Qr (Qp (pt_truth (pv 1) (by intro _; rfl))) (Qe (Qj (pv 0))) pss_nil)
  (Qc (ps_asg (Qm Ql (pv 1) Qg (fun _ _=>rfl)) (pg_tup rfl (Qi (pg_name (i:=2) sc_q30.nd rfl (.inr rfl)) (Qi (pg_name (i:=3) sc_q30.nd rfl (.inl rfl)) pgs_nil))))
  (Qc (ps_set (i:=4) sc_q30.nd rfl (.inl rfl) (pe_callTy call_tuple_of rfl B.tuple boot_tuple (Qa
   (pe_lc (own:=[("pair",6)]) (g:=gName 6) (tt:=tB (tCall (z1g K) [] E0 (tCons (tVar 2) (tCons (tOp (rIxT K) (tVar 6) (tC (.int 0))) tNil)))) (te:=tVar 6) rfl sc_q30.nd (pi_tup (pv 0))
    (blkOk_by (N:=zch) (sc:=defScope z4d) (by decide +kernel))
    (fun _ _ _ _ _=>pg_name (i:=6) sc_q30.nd rfl (.inl rfl))
    (fun _ _ _ _ _=>pts_one (Qo (z00 GL hr rfl (Qa (pv 2) (Qa (Qm Ql (pv 6) Qg (fun _ _=>rfl)) Qb)))))
    (fun _ _ _ _ _=>pv 6)) Qb)))
  (Qc (ps_set (i:=5) sc_q30.nd rfl (.inl rfl) (z00 GM hr rfl (Qa (pv 0) (Qa (pv 2) Qb))))
  (Qe (Qj (pe_op z0y (pe_op z0y (pv 4) (pe_tup (Qa (pe_tup (Qa (pv 2) (Qa (pe_op op_add (pv 5) (pv 3)) Qb))) Qb))) (pe_slice z12 (pv 1) (po_some Qg) po_none))))))),?_⟩
 obtain ⟨b,ys,rfl,hsb,hbb⟩:=z05 hu;refine ⟨_,rfl,_,.inr (.inl ⟨ys,hsb,rfl⟩),?_⟩;cases k with
 | nil =>
  cases hbb;refine iteT ?_;exact ⟨_,rfl,q v H SB.refl hv⟩
 | cons e m r =>
  rw [show (Lad.cons e m r).ps=(e,m)::r.ps from rfl] at hbb;cases hbb with
  | @cons y0 yr _ _ h0 hbr =>
  refine iteF ?_;obtain ⟨c,ue,rfl,hsc,hle⟩:=z0b h0;refine ⟨_,rfl,b,_,_,_,rfl,rfl,hsb,atI_nat (j:=0) rfl,c,_,rfl,hsc,rfl,_,_,rfl,_,_,rfl,rfl,?_⟩;obtain ⟨a,xs,rfl,hsa,hba⟩:=z05 hv;have bl:=hba.length;have lp:=l.len_parts;rw [<- Lad.ps_length] at lp;have ed:e.deep < (Lad.cons e m r).deep:=Lad.mem_deep (.cons e m r) (e,m) (mcs ..);refine ⟨_,rfl,a,rfl,⟨xs,hsa⟩,fun D hD=>?_⟩;refine lc_it (walk_tup (xs:=xs)) (fun i H2=>SB [D] H H2/\∃ acc,H2 D=some (.lst acc)/\Bears K H2 Lad.pEnc acc ((l.ps.take i).filter fun p=>e.lt p.1)) ⟨SB.new hD _,[],Qt,.nil⟩ (fun i H2 hi h2=>(h2.1.drop hD).sqT hsa) (fun i x H2 H' hi h2 y=>?_) (fun H2 h2=>?_)
  ·obtain ⟨s2,acc,hD2,hb2⟩:=h2;obtain ⟨rfl,ex⟩:=y;have s2':=s2.drop hD;obtain ⟨b1,eb,hbd⟩:=hba.get ex;obtain ⟨ad,ux,rfl,hs2,hla⟩:=z0b hbd;refine ⟨rfl,?_⟩;refine ⟨_,rfl,_,rfl,ad,_,_,_,rfl,rfl,s2'.sqT hs2,atI_nat (j:=0) rfl,ue,ux,e,b1.1,rfl,hle.sb s2',hla.sb s2',by omega,_,rfl,?_⟩;have al:=hb2.length;have fl:=List.length_filter_le (fun p:Lad × Int=>e.lt p.1) (l.ps.take i);rw [List.length_take] at fl;cases hc:e.lt b1.1 with
   | true =>
    refine iteT ?_;refine ⟨_,rfl,acc,hD2,z0j (by omega),?_⟩;have t9:=SB.set (ps:=[D]) hD2 (by simp) (.lst (acc++[.ref ad]));refine ⟨s2.trans t9,_,Qt,?_⟩;rw [Yg,eb,List.filter_append];refine Bears.append (hb2.sb t9 Lad.pEnc_noList) ?_;have:([b1]:List (Lad × Int)).filter (fun p=>e.lt p.1)=[b1]:=by simp [hc]
    show Bears K _ Lad.pEnc _ (([b1]:List (Lad × Int)).filter (fun p=>e.lt p.1));rw [this];exact .cons (z0a t9 _ _ (Lad.pEnc_noList _) (z0a s2' _ _ (Lad.pEnc_noList _) hbd)) .nil
   | false =>
    refine iteF ?_;refine ⟨s2,acc,hD2,?_⟩;rw [Yg,eb,List.filter_append];simpa [hc] using hb2
  ·obtain ⟨s2,acc,hD2,hb2⟩:=h2;rw [bl,Yh] at hb2;have s2':=s2.drop hD;refine ⟨D,acc,rfl,.inl ⟨SqL.of hD2,fun kt hkt=>?_⟩⟩;have s3:=SB.new (ps:=[]) hkt (.tup acc);have s23:=s2'.trans s3;refine ⟨_,rfl,_,rfl,_,ue,l,e,rfl,hv.sb s23,hle.sb s23,by omega,by omega,by omega,fun H4 s4=>?_⟩;refine ⟨_,rfl,_,rfl,_,rfl,_,rfl,_,_,rfl,rfl,(by show 2<=sizeLine; decide),fun t1 ht1=>?_⟩;have s5:=SB.new (ps:=[]) ht1 (.tup [ue,.int (Lad.sumAt l.ps e+m)]);refine ⟨(by show 1<=sizeLine; decide),fun t2 ht2=>?_⟩;have s6:=SB.new (ps:=[]) ht2 (.tup [.ref t1]);have al:=hb2.length;have fl:=List.length_filter_le (fun p:Lad × Int=>e.lt p.1) l.ps;refine ⟨kt,t2,_,_,rfl,rfl,((s4.trans s5).trans s6).sqT (SqT.of Qt),SqT.of Qt,by rw [Yi]; omega,fun c1 H7 s7 hc1=>?_⟩;have s47:=((s4.trans s5).trans s6).trans s7;refine ⟨_,rfl,1,rfl,b,_,rfl,(s23.trans s47).sqT hsb,fun c2 H8 s8 hc2=>?_⟩;have e1:cutV (V.ref c::yr) (some 1) none=yr:=by
    have:=z2r (V.ref c::yr) 1;exact this
   rw [e1] at hc2;have rl:=hbr.length;have rp:=(Lad.cons e m r).len_parts;have rp2:r.ps.length+1=(Lad.cons e m r).len:=by rw [<- Lad.ps_length]; rfl
   refine ⟨c1,c2,_,_,rfl,rfl,s8.sqT hc1,hc2,by rw [Yf,Yi]; omega,fun c3 H9 s9 hc3=>?_⟩;refine q _ _ (((s23.trans s47).trans s8).trans s9) ?_;rw [Lad.bhd_cons];refine z0q hc3 ?_;have z1:SB [] _ H9:=(s3.trans s47).trans (s8.trans s9);have z2:SB [] _ H9:=(s6.trans s7).trans (s8.trans s9);rw [List.append_assoc];refine Bears.append (hb2.sb z1 Lad.pEnc_noList) (.cons ?_ (hbr.sb ((s23.trans s47).trans (s8.trans s9)) Lad.pEnc_noList));exact Dp.tup (z2.sqT (SqT.of Qt)) (.cons (hle.sb (((s23.trans s47).trans s8).trans s9)) (.cons (.int _) .nil))
theorem zfw:FnScope ["one","other"] ["one","other"] (defScope z58):=⟨rfl,rfl,rfl,by decide +kernel,rfl,by decide +kernel,by decide +kernel⟩
theorem zfu (G:Got P w K mg base "all_together" ["some"] 2 (z6n K)) (F:Fun K "both" "both" z58 f fd):FnOk P w K mg base CX0 3 f fd ["one","other"] (zb5 K):=by
 refine F.ok zfw (fun vs H Q E h=>?_) (fun cdv A outer s H vs Q E hr h=>?_)
 ·obtain ⟨v,u,l,k,rfl,_⟩:=h
  rfl
 obtain ⟨v,u,l,k,rfl,hv,hu,hd,hd2,hp,hp2,q⟩:=h;refine ⟨_,Qe (Qj (z00 G hr rfl (Qa (pe_lst (Qa (pv 0) (Qa (pv 1) Qb))) Qb))),?_⟩;have lp:=l.len_parts;have kp:=k.len_parts;rw [<- Lad.ps_length] at lp kp;refine ⟨_,rfl,_,rfl,(by show 2<=sizeLine; decide),fun p hp=>?_⟩;have s1:=SB.new (ps:=[]) hp (.lst [v,u]);refine ⟨p,_,[l,k],rfl,SqL.of Qt,.cons (hv.sb s1) (.cons (hu.sb s1) .nil),fun x hx=>?_,by simp; omega,fun x H' s2 hx=>?_⟩
 ·simp at hx;rcases hx with rfl | rfl <;> assumption
 ·rw [Lad.bths_two] at hx;exact q _ _ (s1.trans s2) hx
abbrev zap:List Str:=["some","pairs","ladder","pair"]
theorem sc_q27:FnScope zap ["some"] (defScope z3r):=⟨rfl,rfl,rfl,by decide +kernel,rfl,by decide +kernel,by decide +kernel⟩
theorem zg8 (B:BI mg) (G:Got P w K mg base "joined" ["pairs"] 1 (z7x K Lad.enc)) (F:Fun K "all_together" "all_together" z3r f fd):FnOk P w K mg base CX0 2 f fd ["some"] (z6n K):=by
 refine F.ok sc_q27 (fun vs H Q E h=>?_) (fun cdv A outer s H vs Q E hr h=>?_)
 ·obtain ⟨a,xs,ls,rfl,_⟩:=h
  rfl
 obtain ⟨a,xs,ls,rfl,hs,hb,hd,hn,q⟩:=h;have hun2:=hunT hr;refine ⟨_,Qc (ps_setLc2 (i:=1) (own:=[("ladder",2),("pair",3)]) (vs1:=[3]) (wi1:=iTup K (tVar 2)) (g:=gName 2) (g1:=gName 3) (tt:=tYes) (tt1:=tYes) (te:=tVar 3) rfl sc_q27.nd rfl rfl (sw_true rfl rfl rfl (by decide +kernel)) (pi_list (pv 0))
   (blkOk_by (N:=zap) (sc:=defScope z3r) (by decide +kernel)) (by simp)
   (fun _ _ _ _ _=>pg_name (i:=2) sc_q27.nd rfl (.inl rfl)) (fun _ _ _ _ _=>pts_nil)
   (fun _ _ _ _ _=>pi_tup (pv 2)) (fun _ _ _ _ _=>pg_name (i:=3) sc_q27.nd rfl (.inl rfl)) (fun _ _ _ _ _=>pts_nil) (fun _ _ _ _ _=>pv 3))
  (Qe (Qj (z00 G hr rfl (Qa (pe_callBK (z8v Lad.pEnc (b:=true) (by show A.units+3+110 < cLine; omega)) rfl B.sorted (by decide +kernel) (Qa (pv 1) Qb) (pk_cons pe_bl pk_nil)) Qb)))),?_⟩
 have xl:=hb.length;refine ⟨_,rfl,a,rfl,⟨xs,hs⟩,fun D hD=>?_⟩;refine lcG (walk_list (xs:=xs)) (fun i H2=>SB [D] H H2/\∃ acc,H2 D=some (.lst acc)/\Bears K H Lad.pEnc acc ((ls.take i).flatMap Lad.ps)) ⟨SB.new hD _,[],Qt,.nil⟩ (fun i H2 hi h2=>(h2.1.drop hD).sqL nmn hs) (fun i x H2 H' hi h2 y=>?_) (fun H2 h2=>?_)
 ·obtain ⟨s2,acc,hD2,hacc⟩:=h2;obtain ⟨rfl,ex⟩:=y;obtain ⟨l,el,hl⟩:=hb.get ex;obtain ⟨c,ys,rfl,hsc,hbc⟩:=z05 hl;have yl:=hbc.length;refine ⟨rfl,?_⟩;refine ⟨_,rfl,c,rfl,⟨ys,(s2.drop hD).sqT hsc⟩,?_⟩;have hsplit:(ls.take (i+1)).flatMap Lad.ps=(ls.take i).flatMap Lad.ps++l.ps:=by rw [Yg,el]; simp
  have hle:((ls.take (i+1)).flatMap Lad.ps).length<=1900000:=by
   have h1:ls.flatMap Lad.ps=(ls.take (i+1)).flatMap Lad.ps++(ls.drop (i+1)).flatMap Lad.ps:=by rw [<- List.flatMap_append,List.take_append_drop]
   rw [h1,Yf] at hn;omega
  refine lcG (walk_tup (xs:=ys)) (fun j H3=>SB [D] H H3/\∃ acc,H3 D=some (.lst acc)/\Bears K H Lad.pEnc acc ((ls.take i).flatMap Lad.ps++l.ps.take j)) ⟨s2,acc,hD2,by simpa using hacc⟩ (fun j H3 hj h3=>(h3.1.drop hD).sqT hsc) (fun j x H3 H4 hj h3 y=>?_) (fun H3 h3=>?_)
  ·obtain ⟨s3,acc3,hD3,hacc3⟩:=h3;obtain ⟨rfl,ex⟩:=y;obtain ⟨p,ep,hp⟩:=hbc.get ex;refine ⟨rfl,?_⟩;refine ⟨_,rfl,acc3,hD3,?_,s3.trans (SB.set hD3 (by simp) _),_,Qt,?_⟩
   ·rw [hacc3.length];rw [hsplit] at hle;refine z0j ?_;rw [Yf,List.length_take] at *;omega
   ·rw [Yg,ep,<- List.append_assoc];exact Bears.append hacc3 (.cons hp .nil)
  ·obtain ⟨s3,acc3,hD3,hacc3⟩:=h3;refine ⟨s3,acc3,hD3,?_⟩;rw [hsplit];rw [yl,Yh] at hacc3;exact hacc3
 ·obtain ⟨s2,acc,hD2,hacc⟩:=h2;rw [xl,Yh] at hacc;have s2':=s2.drop hD;refine ⟨_,rfl,rfl,D,_,ls.flatMap Lad.ps,rfl,SqL.of hD2,hacc.sb s2' Lad.pEnc_noList,Lad.pEnc_all _,Lad.pEnc_sortable _,by omega,fun p hp=>?_,fun p zs hp hz=>?_⟩
  ·have:=Lad.pEnc_depth p;obtain ⟨l,hl,hp⟩:=List.mem_flatMap.mp hp;have:=hd l hl;have:=l.mem_deep p hp;omega
  have s3:=SB.new (ps:=[]) hp (.lst zs);refine ⟨p,zs,Lad.dsc (ls.flatMap Lad.ps),rfl,SqL.of Qt,hz.sb s3 Lad.pEnc_noList,?_,fun b hb=>?_,fun c2 ws H3 s4 hc2 hb3=>?_⟩
  ·rw [(Lad.dsc_perm _).length_eq]; omega
  ·refine Lad.shaped_enc ?_;obtain ⟨l,hl,hp⟩:=List.mem_flatMap.mp ((Lad.dsc_perm _).mem_iff.mp hb);have:=hd l hl;have:=l.mem_deep b hp;omega
  ·exact q _ _ ((s2'.trans s3).trans s4) (z0q hc2 hb3)
abbrev z8s:List Str:=["ladder","many","pair"]
theorem sc_q62:FnScope z8s ["ladder","many"] (defScope z4b):=⟨rfl,rfl,rfl,by decide +kernel,rfl,by decide +kernel,by decide +kernel⟩
theorem zei (B:BI mg) (F:Fun K "many_of" "many_of" z4b f fd):FnOk P w K mg base CX0 1 f fd ["ladder","many"] (z27 K):=by
 refine F.ok sc_q62 (fun vs H Q E h=>?_) (fun cdv A outer s H vs Q E hr h=>?_)
 ·obtain ⟨v,l,m,rfl,_⟩:=h
  rfl
 obtain ⟨v,l,m,rfl,hv,hp,hsz,hm0,hm1,q⟩:=h;refine ⟨_,Qc (Qr (pt_cmpR op_eq (pv 1) Qg (nomark _)) (Qe (Qj (pe_tup Qb))) pss_nil)
  (Qe (Qj (pe_callTy call_tuple_of rfl B.tuple boot_tuple (Qa
   (pe_lc (own:=[("pair",2)]) (g:=gName 2) (tt:=tYes) (te:=tTup (tCons (tOp (rIxT K) (tVar 2) (tC (.int 0))) (tCons (tOp (rI CMulW fun i j=>.int (i*j)) (tOp (rIxT K) (tVar 2) (tC (.int 1))) (tVar 1)) tNil))) rfl sc_q62.nd (pi_tup (pv 0))
    (blkOk_by (N:=z8s) (sc:=defScope z4b) (by decide +kernel))
    (fun _ _ _ _ _=>pg_name (i:=2) sc_q62.nd rfl (.inl rfl))
    (fun _ _ _ _ _=>pts_nil)
    (fun _ _ _ _ _=>pe_tup (Qa (Qm Ql (pv 2) Qg (fun _ _=>rfl)) (Qa (pe_op op_mulW (Qm Ql (pv 2) Qg (fun _ _=>rfl)) (pv 1)) Qb)))) Qb)))),?_⟩
 refine ⟨_,rfl,rfl,_,rfl,?_⟩;refine ite2 (fun c=>?_) (fun c=>?_)
 ·have c':V.int m=V.int 0:=of_decide_eq_true c
  injection c' with c'
  refine ⟨(by show 0<=sizeLine; decide),fun t ht=>?_⟩;have e:l.tms m=.nil:=if_pos c';exact q _ _ (SB.new ht _) (by rw [e]; exact z10 (SqT.of Qt))
 ·have c':¬ V.int m=V.int 0:=of_decide_eq_false (Bool.eq_false_iff.mpr c);have c2:¬ m=0:=fun z=>c' (by rw [z]);have e:l.tms m=Lad.ofPs (l.ps.map fun p=>(p.1,p.2*m)):=if_neg c2;obtain ⟨a,xs,rfl,hsa,hba⟩:=z05 hv;have xl:=hba.length;have lp:=l.len_parts;rw [<- Lad.ps_length] at lp;refine ⟨_,rfl,a,rfl,⟨xs,hsa⟩,fun D hD=>?_⟩;refine lc_it (walk_tup (xs:=xs)) (fun i H2=>SB [D] H H2/\∃ acc,H2 D=some (.lst acc)/\Bears K H2 Lad.pEnc acc ((l.ps.take i).map fun p=>(p.1,p.2*m))) ⟨SB.new hD _,[],Qt,.nil⟩ (fun i H2 hi h2=>(h2.1.drop hD).sqT hsa) (fun i x H2 H' hi h2 y=>?_) (fun H2 h2=>?_)
  ·obtain ⟨s2,acc,hD2,hb2⟩:=h2;obtain ⟨rfl,ex⟩:=y;have s2':=s2.drop hD;obtain ⟨b1,eb,hbd⟩:=hba.get ex;obtain ⟨ad,ux,rfl,hs2,hla⟩:=z0b hbd;have bz:=hsz b1 (Qu eb);have al:=hb2.length;rw [Ye,List.length_take] at al;refine ⟨rfl,?_⟩;refine ⟨_,rfl,ad,_,_,_,rfl,rfl,s2'.sqT hs2,atI_nat (j:=0) rfl,_,rfl,ad,_,_,_,rfl,rfl,s2'.sqT hs2,atI_nat (j:=1) rfl,_,rfl,_,_,rfl,rfl,wide_mul (a:=2000) (b:=2000) (by omega) (by omega) (by decide) (by decide) (by decide),(by show 2<=sizeLine; decide),fun t ht=>?_⟩;have t3:=SB.new (ps:=[D]) ht (.tup [ux,.int (b1.2*m)]);have hD3:(upd H' t (.tup [ux,.int (b1.2*m)])) D=some (.lst acc):=by rw [upd_ne (ne_of_none hD2 ht)]; exact hD2
   refine ⟨acc,hD3,z0j (by omega),?_⟩;have t4:=SB.set (ps:=[D]) hD3 (by simp) (.lst (acc++[.ref t]));refine ⟨(s2.trans t3).trans t4,_,Qt,?_⟩;rw [Yg,eb,Yj];exact Bears.append ((hb2.sb t3 Lad.pEnc_noList).sb t4 Lad.pEnc_noList) (.cons (Dp.tup (t4.sqT (SqT.of Qt)) (.cons (((hla.sb s2').sb t3).sb t4) (.cons (.int _) .nil))) .nil)
  ·obtain ⟨s2,acc,hD2,hb2⟩:=h2;rw [xl,Yh] at hb2;refine ⟨D,acc,rfl,.inl ⟨SqL.of hD2,fun t ht=>?_⟩⟩;have t3:=SB.new (ps:=[]) ht (.tup acc);refine q _ _ ((s2.drop hD).trans t3) ?_;rw [e];exact z0q (SqT.of Qt) (hb2.sb t3 Lad.pEnc_noList)
abbrev ziu:List Str:=["one","other","at","exponent","many"]
theorem sc_q69:FnScope ziu ["one","other"] (defScope z5g):=⟨rfl,rfl,rfl,by decide +kernel,rfl,by decide +kernel,by decide +kernel⟩
theorem zf3 {C:Addr} (B:BI mg) (O:Own K mg "NoRest" C) (GL:Got P w K mg base "is_less" ["one","other"] 1 (z1g K)) (GA:Got P w K mg base "alike_ahead" ["one","other"] 1 (z91 K)) (F:Fun K "rest" "rest" z5g f fd):FnOk P w K mg base (L2.CX P w) 2 f fd ["one","other"] (zak K C):=by
 refine F.okX sc_q69 (fun vs H Q E h=>?_) (fun cdv A outer s H vs Q E hr h=>?_)
 ·obtain ⟨v,u,l,k,rfl,_⟩:=h
  rfl
 obtain ⟨v,u,l,o,rfl,hv,hu,hd,hd2,hp,hp2,q,qE⟩:=h;have hun2:=hunT hr;refine ⟨_,Qc (Qr (Qo (z00 GL hr rfl (Qa (pv 1) (Qa (pv 0) Qb)))) (Qe (ps_raise rfl (takes_of rfl rfl rfl rfl) (pmk_own PySem.F.excBase_ValueError O.q O.gC O.k (raises_own O.s O.t) rfl))) pss_nil)
  (PSs.nox (Qc (ps_set (i:=2) sc_q69.nd rfl (.inl rfl) (z00 GA hr rfl (Qa (pv 0) (Qa (pv 1) Qb))))
  (Qc (Qr (PW.pt (pw_or (pt_cmpR op_eq (pv 2) (Qs call_len_seq rfl B.len PySem.boot_len (Qa (pv 0) Qb)) (nomark _)) (pw_or1 (pt_cmpR (op_neD (by show A.units+3+64 < cLine; omega)) (Qm Ql (Qm Ql (pv 0) (pv 2) (fun _ _=>rfl)) Qg (fun _ _=>rfl)) (Qm Ql (Qm Ql (pv 1) (pv 2) (fun _ _=>rfl)) Qg (fun _ _=>rfl)) (nomark _)))))
   (Qe (Qj (pe_slice z12 (pv 1) (po_some (pv 2)) po_none))) pss_nil)
  (Qc (ps_asg (Qm Ql (pv 1) (pv 2) (fun _ _=>rfl)) (pg_tup rfl (Qi (pg_name (i:=3) sc_q69.nd rfl (.inl rfl)) (Qi (pg_name (i:=4) sc_q69.nd rfl (.inl rfl)) pgs_nil))))
  (Qe (Qj (pe_op z0y (pe_tup (Qa (pe_tup (Qa (pv 3) (Qa (pe_op op_sub (pv 4) (Qm Ql (Qm Ql (pv 0) (pv 2) (fun _ _=>rfl)) Qg (fun _ _=>rfl))) Qb))) Qb)) (pe_slice z12 (pv 1) (po_some (pe_op op_add (pv 2) Qg)) po_none)))))))),?_⟩
 refine ⟨_,rfl,_,rfl,u,v,o,l,rfl,hu,hv,by omega,_,rfl,?_⟩;cases hol:o.lt l with
 | true=>exact iteT (qE hol)
 | false =>
 refine iteF ?_;have q:=q hol;obtain ⟨a,xs,rfl,hsa,hba⟩:=z05 hv;obtain ⟨b,ys,rfl,hsb,hbb⟩:=z05 hu;have xl:=hba.length;have yl:=hbb.length;refine ⟨_,rfl,_,rfl,_,_,l,o,rfl,hv,hu,by omega,by omega,by omega,by omega,?_⟩;obtain ⟨kl,ko,_,hle,hrs,hdf⟩:=Lad.alh_spec l o;rw [hol] at hle;have hle:=hle.symm;generalize l.alh o=k at *;have s2:SB [] H H:=SB.refl;have slc:∀ (H5:Hp),SB [] H H5->l.rst o=Lad.ofPs (o.ps.drop k)->∀ (c:Addr) (H':Hp),SB [] H5 H'->SqT K H' c (cutV ys (some (k:Int)) none)->Q (.ref c) H':=by
  intro H5 s5 e c H' s' hc;rw [z2r] at hc;refine q _ _ ((s2.trans s5).trans s') ?_;rw [e];exact z0q hc ((hbb.drop k).sb ((s2.trans s5).trans s') Lad.pEnc_noList)
 refine ⟨_,rfl,_,rfl,a,xs,rfl,.inr (s2.sqT hsa),rfl,_,rfl,?_⟩;by_cases c:k=xs.length
 ·have e1:decide (V.int (k:Int)=V.int (xs.length:Nat))=true:=Ya (by rw [c]);rw [e1];refine iteT (iteT ?_);refine ⟨_,rfl,_,rfl,_,rfl,b,_,rfl,s2.sqT hsb,fun c2 H8 s8 hc2=>?_⟩;refine slc H SB.refl ?_ c2 H8 s8 hc2;rw [hrs,List.drop_eq_nil_of_le (show l.ps.length<=k by omega)];exact Lad.rst_nil _
 have e1:decide (V.int (k:Int)=V.int (xs.length:Nat))=false:=Qz (fun z=>by injection z with z; omega);rw [e1];refine iteF ?_;have ko2:k < o.ps.length:=by
  rcases Nat.lt_or_ge k o.ps.length with h | h
  ·exact h
  ·rw [Lad.lt_end ko kl (by omega)] at hle;rw [show decide (k=o.ps.length)=true by simp; omega,show decide (k < l.ps.length)=true by simp; omega] at hle;cases hle
 have hxk:xs[k]?=some xs[k]:=List.getElem?_eq_getElem (by omega);have hyk:ys[k]?=some ys[k]:=List.getElem?_eq_getElem (by omega);obtain ⟨p1,ep1,hp1⟩:=hba.get hxk;obtain ⟨p2,ep2,hp2'⟩:=hbb.get hyk;obtain ⟨a1,u1,ea1,hs1,hl1⟩:=z0b hp1;obtain ⟨a2,u2,ea2,hs2,hl2⟩:=z0b hp2';rw [ea1] at hxk hp1;rw [ea2] at hyk hp2';have d1:=l.mem_deep p1 (Qu ep1);have d2:=o.mem_deep p2 (Qu ep2);rw [Lad.lt_drop ep2 ep1] at hle;rw [Lad.rst_drop ep1 ep2] at hrs;have hdf:=hdf p1 p2 ep1 ep2;by_cases he:p1.1=p2.1
 ·rw [if_pos he.symm] at hle;rw [if_pos he] at hrs;have hm:¬ p1.2=p2.2:=fun z=>hdf ⟨he,z⟩
  ·rw [if_neg hm] at hrs;refine ⟨_,rfl,_,rfl,a,xs,_,_,rfl,rfl,s2.sqT hsa,atI_nat hxk,a1,_,_,_,rfl,rfl,s2.sqT hs1,atI_nat (j:=0) rfl,_,rfl,_,rfl,b,ys,_,_,rfl,rfl,s2.sqT hsb,atI_nat hyk,a2,_,_,_,rfl,rfl,s2.sqT hs2,atI_nat (j:=0) rfl,p1.1.enc,p2.1.enc,hl1.sb s2,hl2.sb s2,Lad.shaped_enc (by omega),Lad.shaped_enc (by omega),_,rfl,?_⟩;rw [neF he];refine iteF ?_;refine ⟨_,rfl,_,rfl,b,ys,_,_,rfl,rfl,s2.sqT hsb,atI_nat hyk,a2,_,rfl,s2.sqT hs2,rfl,_,_,rfl,_,_,rfl,rfl,?_⟩;refine ⟨_,rfl,_,rfl,_,rfl,_,rfl,a,xs,_,_,rfl,rfl,s2.sqT hsa,atI_nat hxk,a1,_,_,_,rfl,rfl,s2.sqT hs1,atI_nat (j:=1) rfl,_,_,rfl,rfl,(by show 2<=sizeLine; decide),fun t1 ht1=>?_⟩;have s5:=SB.new (ps:=[]) ht1 (.tup [u2,.int (p2.2-p1.2)]);refine ⟨(by show 1<=sizeLine; decide),fun t2 ht2=>?_⟩;have s6:=SB.new (ps:=[]) ht2 (.tup [.ref t1]);have s56:=(s2.trans s5).trans s6;refine ⟨_,rfl,_,rfl,_,_,rfl,rfl,_,rfl,b,_,rfl,s56.sqT hsb,fun c2 H8 s8 hc2=>?_⟩;have hc3:SqT K H8 c2 (ys.drop (k+1)):=by
    have:=z2r ys (k+1);rw [<- this];exact hc2
   have op:=o.len_parts;rw [<- Lad.ps_length] at op;refine ⟨t2,c2,_,_,rfl,rfl,s8.sqT (SqT.of Qt),hc3,by rw [Yi,List.length_drop]; omega,fun c4 H9 s9 hc4=>?_⟩;have s69:=s8.trans s9;refine q _ _ (s56.trans s69) ?_;rw [hrs];have z:=z0q (bs:=(p1.1,p2.2-p1.2)::o.ps.drop (k+1)) hc4 (.cons ?_ ((hbb.drop (k+1)).sb (s56.trans s69) Lad.pEnc_noList))
   ·exact z
   ·rw [he];exact Dp.tup ((s6.trans s69).sqT (SqT.of Qt)) (.cons (hl2.sb (s56.trans s69)) (.cons (.int _) .nil))
 ·rw [if_neg he] at hrs;refine ⟨_,rfl,_,rfl,a,xs,_,_,rfl,rfl,s2.sqT hsa,atI_nat hxk,a1,_,_,_,rfl,rfl,s2.sqT hs1,atI_nat (j:=0) rfl,_,rfl,_,rfl,b,ys,_,_,rfl,rfl,s2.sqT hsb,atI_nat hyk,a2,_,_,_,rfl,rfl,s2.sqT hs2,atI_nat (j:=0) rfl,p1.1.enc,p2.1.enc,hl1.sb s2,hl2.sb s2,Lad.shaped_enc (by omega),Lad.shaped_enc (by omega),_,rfl,?_⟩;rw [show (!PyData.eqv p1.1.enc p2.1.enc)=true by rw [Lad.eqv_enc]; simp [he]];refine iteT ?_;refine ⟨_,rfl,_,rfl,_,rfl,b,_,rfl,s2.sqT hsb,fun c2 H8 s8 hc2=>?_⟩;refine slc H SB.refl ?_ c2 H8 s8 hc2;have e2:o.ps[k]=p2:=(List.getElem?_eq_some_iff.mp ep2).2;rw [hrs,List.drop_eq_getElem_cons ko2,e2]
  rfl
theorem zgm:FnScope ["ladder"] ["ladder"] (defScope z68):=⟨rfl,rfl,rfl,by decide +kernel,rfl,by decide +kernel,by decide +kernel⟩
theorem zfq (F:Fun K "power" "power" z68 f fd):FnOk P w K mg base CX0 1 f fd ["ladder"] (z73 K):=by
 refine F.ok zgm (fun vs H Q E h=>?_) (fun cdv A outer s H vs Q E hr h=>?_)
 ·obtain ⟨v,l,rfl,_⟩:=h
  rfl
 obtain ⟨v,l,rfl,hv,q⟩:=h;refine ⟨_,Qe (Qj (pe_tup (Qa (pe_tup (Qa (pv 0) (Qa Qg Qb))) Qb))),?_⟩;refine ⟨_,rfl,(by show 2<=sizeLine; decide),fun p1 h1=>?_⟩;refine ⟨(by show 1<=sizeLine; decide),fun p2 h2=>?_⟩;have e1:=SB.new (ps:=[]) h1 (.tup [v,.int 1]);have e2:=SB.new (ps:=[]) h2 (.tup [.ref p1]);exact q _ _ (e1.trans e2) (z3j (SqT.of Qt) (e2.sqT (SqT.of Qt)) ((hv.sb e1).sb e2))
abbrev zd1:List Str:=["one","other","exponent","kept","pair"]
theorem sc_q24:FnScope zd1 ["one","other"] (defScope z3p):=⟨rfl,rfl,rfl,by decide +kernel,rfl,by decide +kernel,by decide +kernel⟩
theorem ze8 (B:BI mg) (GL:Got P w K mg base "is_less" ["one","other"] 1 (z1g K)) (GN:Got P w K mg base "number" ["many"] 1 (z8h K)) (GW:Got P w K mg base "power" ["ladder"] 1 (z73 K)) (GH:Got P w K mg base "behind" ["one","other"] 2 (z20 K)) (GB:Got P w K mg base "both" ["one","other"] 3 (zb5 K)) (F:Fun K "above" "above" z3p f fd):FnOk P w K mg base CX0 4 f fd ["one","other"] (z94 K):=by
 refine F.ok sc_q24 (fun vs H Q E h=>?_) (fun cdv A outer s H vs Q E hr h=>?_)
 ·obtain ⟨v,u,l,k,rfl,_⟩:=h
  rfl
 obtain ⟨v,u,l,k,rfl,hv,hu,hd,hd2,hp,hp2,q⟩:=h;have hr1:=hr.mono (j:=1) (by decide);have hr2:=hr.mono (j:=2) (by decide);refine ⟨_,Qc (Qr (Qp (pt_truth (pv 1) (by intro _; rfl))) (Qe (Qj (z00 GB hr rfl (Qa (pv 0) (Qa (z00 GN hr1 rfl (Qa Qg Qb)) Qb))))) pss_nil)
  (Qc (ps_set (i:=2) sc_q24.nd rfl (.inr rfl) (Qm Ql (Qm Ql (pv 1) Qg (fun _ _=>rfl)) Qg (fun _ _=>rfl)))
  (Qc (ps_set (i:=3) sc_q24.nd rfl (.inl rfl) (pe_callTy call_tuple_of rfl B.tuple boot_tuple (Qa
   (pe_lc (own:=[("pair",4)]) (g:=gName 4) (tt:=tB (tCall (z1g K) [] E0 (tCons (tVar 2) (tCons (tOp (rIxT K) (tVar 4) (tC (.int 0))) tNil)))) (te:=tVar 4) rfl sc_q24.nd (pi_tup (pv 0))
    (blkOk_by (N:=zd1) (sc:=defScope z3p) (by decide +kernel))
    (fun _ _ _ _ _=>pg_name (i:=4) sc_q24.nd rfl (.inl rfl))
    (fun _ _ _ _ _=>pts_one (Qo (z00 GL hr1 rfl (Qa (pv 2) (Qa (Qm Ql (pv 4) Qg (fun _ _=>rfl)) Qb)))))
    (fun _ _ _ _ _=>pv 4)) Qb)))
  (Qe (Qj (z00 GB hr rfl (Qa (pv 3) (Qa (z00 GW hr1 rfl (Qa (z00 GH hr2 rfl (Qa (pv 2) (Qa (z00 GN hr1 rfl (Qa Qg Qb)) Qb))) Qb)) Qb))))))),?_⟩
 obtain ⟨b,ys,rfl,hsb,hbb⟩:=z05 hu;refine ⟨_,rfl,_,.inr (.inl ⟨ys,hsb,rfl⟩),?_⟩;cases k with
 | nil =>
  cases hbb;refine iteT ?_;refine ⟨_,rfl,1,rfl,fun n1 H1 s1 hn1=>?_⟩;rw [Lad.num_one] at hn1;exact ⟨v,n1,l,Lad.uno,rfl,hv.sb s1,hn1,by omega,by decide,by omega,by decide,fun x H' s2 hx=>q x H' (s1.trans s2) hx⟩
 | cons e m r =>
  rw [show (Lad.cons e m r).ps=(e,m)::r.ps from rfl] at hbb;cases hbb with
  | @cons y0 yr _ _ h0 hbr =>
  refine iteF ?_;obtain ⟨c,ue,rfl,hsc,hle⟩:=z0b h0;refine ⟨_,rfl,b,_,_,_,rfl,rfl,hsb,atI_nat (j:=0) rfl,c,_,_,_,rfl,rfl,hsc,atI_nat (j:=0) rfl,?_⟩;obtain ⟨a,xs,rfl,hsa,hba⟩:=z05 hv;have bl:=hba.length;have lp:=l.len_parts;rw [<- Lad.ps_length] at lp;have ed:e.deep < (Lad.cons e m r).deep:=Lad.mem_deep (.cons e m r) (e,m) (mcs ..);have ep:e.parts<=(Lad.cons e m r).parts:=by show e.parts<=1+e.parts+r.parts; omega
  refine ⟨_,rfl,a,rfl,⟨xs,hsa⟩,fun D hD=>?_⟩;refine lc_it (walk_tup (xs:=xs)) (fun i H2=>SB [D] H H2/\∃ acc,H2 D=some (.lst acc)/\Bears K H2 Lad.pEnc acc ((l.ps.take i).filter fun p=>e.lt p.1)) ⟨SB.new hD _,[],Qt,.nil⟩ (fun i H2 hi h2=>(h2.1.drop hD).sqT hsa) (fun i x H2 H' hi h2 y=>?_) (fun H2 h2=>?_)
  ·obtain ⟨s2,acc,hD2,hb2⟩:=h2;obtain ⟨rfl,ex⟩:=y;have s2':=s2.drop hD;obtain ⟨b1,eb,hbd⟩:=hba.get ex;obtain ⟨ad,ux,rfl,hs2,hla⟩:=z0b hbd;refine ⟨rfl,?_⟩;refine ⟨_,rfl,_,rfl,ad,_,_,_,rfl,rfl,s2'.sqT hs2,atI_nat (j:=0) rfl,ue,ux,e,b1.1,rfl,hle.sb s2',hla.sb s2',by omega,_,rfl,?_⟩;have al:=hb2.length;have fl:=List.length_filter_le (fun p:Lad × Int=>e.lt p.1) (l.ps.take i);rw [List.length_take] at fl;cases hc:e.lt b1.1 with
   | true =>
    refine iteT ?_;refine ⟨_,rfl,acc,hD2,z0j (by omega),?_⟩;have t9:=SB.set (ps:=[D]) hD2 (by simp) (.lst (acc++[.ref ad]));refine ⟨s2.trans t9,_,Qt,?_⟩;rw [Yg,eb,List.filter_append];refine Bears.append (hb2.sb t9 Lad.pEnc_noList) ?_;have:([b1]:List (Lad × Int)).filter (fun p=>e.lt p.1)=[b1]:=by simp [hc]
    show Bears K _ Lad.pEnc _ (([b1]:List (Lad × Int)).filter (fun p=>e.lt p.1));rw [this];exact .cons (z0a t9 _ _ (Lad.pEnc_noList _) (z0a s2' _ _ (Lad.pEnc_noList _) hbd)) .nil
   | false =>
    refine iteF ?_;refine ⟨s2,acc,hD2,?_⟩;rw [Yg,eb,List.filter_append];simpa [hc] using hb2
  ·obtain ⟨s2,acc,hD2,hb2⟩:=h2;rw [bl,Yh] at hb2;have s2':=s2.drop hD;refine ⟨D,acc,rfl,.inl ⟨SqL.of hD2,fun kt hkt=>?_⟩⟩;have s3:=SB.new (ps:=[]) hkt (.tup acc);have s23:=s2'.trans s3;have kept:LA K (upd H2 kt (.tup acc)) (.ref kt) (Lad.ofPs (l.ps.filter fun p=>e.lt p.1)):=z0q (SqT.of Qt) (hb2.sb s3 Lad.pEnc_noList);refine ⟨_,rfl,_,rfl,1,rfl,fun n1 H4 s4 hn1=>?_⟩;rw [Lad.num_one] at hn1;refine ⟨ue,n1,e,Lad.uno,rfl,(hle.sb s23).sb s4,hn1,by omega,by decide,by omega,by decide,fun x1 H5 s5 hx1=>?_⟩;refine ⟨x1,_,rfl,hx1,fun x2 H6 s6 hx2=>?_⟩;have b1:=Lad.bhd_parts e Lad.uno;have b2:=Lad.bhd_deep (n:=29) (l:=e) (k:=Lad.uno) (by omega) (by decide);have b3:=Lad.filter_parts l fun p=>e.lt p.1;have b4:Lad.uno.parts=1:=rfl;refine ⟨.ref kt,x2,_,_,rfl,((kept.sb s4).sb s5).sb s6,hx2,Yb (Lad.filter_deep _ hd) (by decide),by show max (1+(Lad.bhd e Lad.uno).deep) 0<=30; omega,by omega,by show 1+(Lad.bhd e Lad.uno).parts+0<=800000; omega,fun x H' s7 hx=>?_⟩;exact q x H' (((s23.trans s4).trans s5).trans (s6.trans s7)) hx
theorem zeo:FnScope ["one","other"] ["one","other"] (defScope z5m):=⟨rfl,rfl,rfl,by decide +kernel,rfl,by decide +kernel,by decide +kernel⟩
theorem zgh (GW:Got P w K mg base "power" ["ladder"] 1 (z73 K)) (GH:Got P w K mg base "behind" ["one","other"] 2 (z20 K)) (F:Fun K "spread" "spread" z5m f fd):FnOk P w K mg base CX0 3 f fd ["one","other"] (z7s K):=by
 refine F.ok zeo (fun vs H Q E h=>?_) (fun cdv A outer s H vs Q E hr h=>?_)
 ·obtain ⟨v,u,e,m,r,k,rfl,_⟩:=h
  rfl
 obtain ⟨v,u,e,m,r,k,rfl,hv,hu,hd,hd2,hp,hp2,q⟩:=h;have hr1:=hr.mono (j:=1) (by decide);refine ⟨_,Qc (Qr (Qp (pt_truth (pv 1) (by intro _; rfl))) (Qe (Qj (pv 0))) pss_nil)
  (Qe (Qj (z00 GW hr1 rfl (Qa (z00 GH hr rfl (Qa (Qm Ql (Qm Ql (pv 0) Qg (fun _ _=>rfl)) Qg (fun _ _=>rfl)) (Qa (pv 1) Qb))) Qb)))),?_⟩
 obtain ⟨b,ys,rfl,hsb,hbb⟩:=z05 hu;refine ⟨_,rfl,_,.inr (.inl ⟨ys,hsb,rfl⟩),?_⟩;cases k with
 | nil =>
  cases hbb;refine iteT ?_;exact ⟨_,rfl,q v H SB.refl hv⟩
 | cons e2 m2 r2 =>
  rw [show (Lad.cons e2 m2 r2).ps=(e2,m2)::r2.ps from rfl] at hbb;cases hbb with
  | @cons y0 yr _ _ h0 hbr =>
  refine iteF ?_;obtain ⟨a,xs,rfl,hsa,hba⟩:=z05 hv;rw [show (Lad.cons e m r).ps=(e,m)::r.ps from rfl] at hba;cases hba with
  | @cons x0 xr _ _ g0 gbr =>
  obtain ⟨c,ue,rfl,hsc,hle⟩:=z0b g0;have ed:e.deep < (Lad.cons e m r).deep:=Lad.mem_deep (.cons e m r) (e,m) (mcs ..);have ep:e.parts<=(Lad.cons e m r).parts:=by show e.parts<=1+e.parts+r.parts; omega
  refine ⟨_,rfl,a,_,_,_,rfl,rfl,hsa,atI_nat (j:=0) rfl,c,_,_,_,rfl,rfl,hsc,atI_nat (j:=0) rfl,_,rfl,ue,_,e,_,rfl,hle,hu,by omega,by omega,by omega,by omega,fun x1 H1 s1 hx1=>?_⟩;exact ⟨x1,_,rfl,hx1,fun x H' s2 hx=>q x H' (s1.trans s2) hx⟩
abbrev zcp:List Str:=["book","found","name","rule"]
theorem sc_q64:FnScope zcp ["book"] (defScope z3u):=⟨rfl,rfl,rfl,by decide +kernel,rfl,by decide +kernel,by decide +kernel⟩
theorem zfn {C_Book C_NoKind:Addr} (B:BI mg) (G_q36:Got P w K mg base "ending_kinds" ["book"] (24) (z3i K C_Book C_NoKind)) (G_q71:GotX P w K mg base "rules_from_nought" ["book","name"] (5) (z53 K C_Book C_NoKind)) (G_q35:Got P w K mg base "climb" ["book","worths","rule"] (46) (z2p K C_Book)) (F:Fun K "own_ranks" "own_ranks" z3u f fd):FnOk P w K mg base CX0 (47) f fd ["book"] (z5k K C_Book C_NoKind):=by
 refine F.ok sc_q64 (fun vs H Q E h=>?_) (fun cdv A outer s H vs Q E hr h=>?_)
 ·obtain ⟨v,b,ρ,rfl,_⟩:=h
  rfl
 obtain ⟨v,b,ρ,rfl,hv,ok,ow,q⟩:=h;have hun2:=hunT hr;refine ⟨_,Qc (ps_set (i:=1) sc_q64.nd rfl (.inr rfl) pe_dnewK)
  (Qc (ps_for PassesOwn.never rfl (pi_list (z00 G_q36 (hr.mono (by omega)) rfl (Qa (pv 0) Qb))) (pg_name (i:=2) sc_q64.nd rfl (.inl rfl))
   (Qe (ps_dput (by show A.units+3+1 < cLine; omega) (pv 1) (pv 2) (Qs (zdu rfl (by show A.units+3+110 < cLine; omega)) rfl B.max boot_max (Qa (pe_lc (own:=[("rule",3)]) (g:=(gName 3)) (tt:=tYes) (te:=(tCall (z2p K C_Book) [] E0 (tCons (tVar 0) (tCons (tVar 1) (tCons (tVar 3) tNil))))) rfl sc_q64.nd (pi_list (z3t G_q71 (hr.mono (by omega)) rfl (Qa (pv 0) (Qa (pv 2) Qb)))) (blkOk_by (N:=zcp) (sc:=defScope z3u) (by decide +kernel)) (fun _ _ _ _ _=>(pg_name (i:=3) sc_q64.nd rfl (.inl rfl))) (fun _ _ _ _ _=>pts_nil) (fun _ _ _ _ _=>(z00 G_q35 (hr.mono (by omega)) rfl (Qa (pv 0) (Qa (pv 1) (Qa (pv 3) Qb)))))) Qb)) rfl)))
  (Qe (Qj (pv 1)))),?_⟩
 have szl:=sizeLine_eq;have b8:=ok.len;intro D nD;have t1:=SB.new (ps:=[]) nD (.dK []);have hD1:upd H D (.dK []) D=some (.dK []):=Qt;generalize upd H D (.dK [])=H1 at t1 hD1;refine ⟨_,rfl,v,b,rfl,hv.sb0 t1,ok,fun l es H2 s2 nl hl eo=>?_⟩;have e8:=eo.len;refine ⟨l,rfl,⟨_,SqL.of hl⟩,?_⟩;have Dl:D ≠ l:=fun z=>by rw [<- z,hD1] at nl; cases nl
 refine for_it (walk_list (xs:=es.map V.str)) (fun i σ H3=>SB [D] H2 H3/\(∃ o2:Option V,σ=[some v,some (.ref D),o2,none])/\RkD K H3 D ρ (es.take i)) ⟨SB.refl,⟨none,rfl⟩,[],s2.keep _ _ hD1 nmn,.nil⟩ (fun i σ H3 hi h3=>h3.1.sqL (by simpa using fun z=>Dl z.symm) (SqL.of hl)) (fun i x σ Hq H3 hi h3 y=>?_) (fun σ H3 h3=>?_)
 ·obtain ⟨s3,⟨o2,rfl⟩,hR⟩:=h3;obtain ⟨rfl,ey⟩:=y;rw [List.getElem?_map] at ey;obtain ⟨n,en,rfl⟩:=Option.map_eq_some_iff.mp ey;have s03:SB [] H H3:=((t1.trans s2).nil.trans s3).drop nD;have hn:=(eo.mem n).mp (Qu en);obtain ⟨kd,eg⟩:=Bk.get_of hn.1;obtain ⟨km,rfl⟩:=Bk.get_some eg;obtain ⟨kn,r4,rr⟩:=ok.kd kd km;refine ⟨_,rfl,_,rfl,v,b,kd.n,rfl,hv.sb0 s03,by omega,fun k hk=>Yb (ok.kd k hk).2.1 (by decide),fun k' e' ll us H4 s4 nll hll hbl=>?_,fun z=>by rw [eg] at z; cases z⟩;rw [eg] at e';cases e';have ul:=hbl.length;have Dll:D ≠ ll:=fun z=>by
   obtain ⟨_,h1,_⟩:=hR;rw [<- z,h1] at nll; cases nll
  have hR4:=hR.sb0 s4;have s04:=s03.trans s4;refine ⟨ll,rfl,⟨_,SqL.of hll⟩,fun D2 nD2=>?_⟩;refine z0i (walk_list (xs:=us)) nD2 (by rw [ul,Yk]; omega) (fun j ws H5=>Bears K H5 Lad.enc ws (((noR::kd.rs).take j).map (clm b ρ))) .nil (fun H5 s5=>s5.sqL nmn (SqL.of hll)) (fun j ws H5 H6 s6 h=>h.sb s6 Lad.noList_enc) (fun Pv j x Hq H5 ws hj s5 y hR5 hu5 fin skip=>?_) (fun ws H5 s5 hD5 hR5 hu5=>?_)
  ·obtain ⟨rfl,ey⟩:=y;obtain ⟨r,er,hrd⟩:=hbl.get ey;have rm:=Qu er;have rf:RFit b ρ (es.take i) r:=by
    rcases Qv rm with rfl | rm
    ·exact z6t b ρ _
    ·exact ow.fit kd km hn.2 _ (fun n h=>eo.ord i _ en n h) r rm
   have rp:r.1.parts+r.2.parts<=4:=by
    rcases Qv rm with rfl | rm
    ·decide
    ·exact (rr r rm).1.2.2
   have rd1:=z07 r.1;have rd2:=z07 r.2;refine ⟨rfl,_,rfl,_,rfl,_,rfl,v,x,D,b,ρ,es.take i,r,rfl,(hv.sb0 s04).sb0 s5,by omega,hR4.sb0 s5,z0a s5 _ _ (Ru.noList_enc _) hrd,by omega,by omega,by omega,by omega,rf,fun z H6 s6 hz=>fin z H6 s6 ?_⟩;rw [Yg,er,Yj];exact (hR5.sb s6 Lad.noList_enc).append (.cons hz .nil)
  ·rw [ul,Yh,List.map_cons,show clm b ρ noR=Lad.uno from z3e b ρ] at hR5;have hR6:=hR4.sb0 s5;refine ⟨D2,ws,Lad.uno,kd.rs.map (clm b ρ),rfl,SqL.of hD5,hR5,fun l hl'=>?_,fun x hx=>?_⟩
   ·rcases Qv hl' with rfl | hl'
    ·decide
    ·obtain ⟨r,rm,rfl⟩:=Qx hl';exact ow.deep kd km hn.2 r rm
   rw [<- ow.own kd km hn.2] at hx;have fresh:kd.n ∉ es.take i:=fun z=>by
    obtain ⟨j,hj,ej⟩:=List.getElem_of_mem z;rw [List.getElem_take] at ej;rw [List.length_take] at hj;have e2:=List.getElem_of_getElem? en;obtain ⟨hi2,e2⟩:=e2;exact List.pairwise_iff_getElem.mp eo.nd j i (by omega) hi2 (by omega) (ej.trans e2.symm)
   obtain ⟨H6,hput,s6,hR7⟩:=hR6.put fresh (by rw [List.length_take]; omega) hx;refine ⟨_,rfl,_,rfl,D,H6,rfl,hput,?_,⟨_,rfl⟩,?_⟩
   ·exact (s3.trans (s4.trans s5).nil).trans s6
   ·rw [Yg,en];exact hR7
 ·obtain ⟨s3,⟨o2,rfl⟩,hR⟩:=h3;rw [Ye,Yh] at hR;exact ⟨_,rfl,q D es _ (((t1.trans s2).nil.trans s3).drop nD) nD hR eo⟩
abbrev zi3:List Str:=["book","worths","rule","once","each"]
theorem sc_q35:FnScope zi3 ["book","worths","rule"] (defScope z5h):=⟨rfl,rfl,rfl,by decide +kernel,rfl,by decide +kernel,by decide +kernel⟩
theorem zex {C_Book:Addr} (B:BI mg) (G_q24:Got P w K mg base "above" ["one","other"] (4) (z94 K)) (G_q67:Got P w K mg base "reckoned" ["book","worths","grove"] (45) (z1f K C_Book 20)) (F:Fun K "climb" "climb" z5h f fd):FnOk P w K mg base CX0 (46) f fd ["book","worths","rule"] (z2p K C_Book):=by
 refine F.ok sc_q35 (fun vs H Q E h=>?_) (fun cdv A outer s H vs Q E hr h=>?_)
 ·obtain ⟨v,u,d,b,ρ,ns,r,rfl,_⟩:=h
  rfl
 obtain ⟨v,u,d,b,ρ,ns,r,rfl,hv,hl,hw,hu,d1,d2,p1,p2,hfit,q⟩:=h;have hun2:=hunT hr;refine ⟨_,Qc (ps_asg (pv 2) (pg_tup rfl (Qi (pg_name (i:=3) sc_q35.nd rfl (.inl rfl)) (Qi (pg_name (i:=4) sc_q35.nd rfl (.inl rfl)) pgs_nil))))
  (Qe (Qj (z00 G_q24 (hr.mono (by omega)) rfl (Qa (z00 G_q67 (hr.mono (by omega)) rfl (Qa (pv 0) (Qa (pv 1) (Qa (pv 3) Qb)))) (Qa (z00 G_q67 (hr.mono (by omega)) rfl (Qa (pv 0) (Qa (pv 1) (Qa (pv 4) Qb)))) Qb))))),?_⟩
 cases hu with
 | @tup ad us' _ hs' hda =>
 cases hda with
 | cons g1 hda =>
 cases hda with
 | cons g2 hda =>
 cases hda;obtain ⟨h1,h2,h3,h4,h5,h6⟩:=hfit;refine ⟨_,rfl,ad,_,rfl,hs',rfl,_,_,rfl,_,_,rfl,rfl,?_⟩;refine ⟨_,rfl,_,rfl,_,rfl,v,_,d,b,ρ,ns,r.1,rfl,hv,hl,hw,g1,d1,h1.w,p1,fun x1 H1 s1 hx1=>?_⟩;refine ⟨_,rfl,_,rfl,_,rfl,v,_,d,b,ρ,ns,r.2,rfl,hv.sb0 s1,hl,hw.sb0 s1,GA.sb g2 s1,d2,h2.w,p2,fun x2 H2 s2 hx2=>?_⟩;exact ⟨x1,x2,_,_,rfl,hx1.sb s2,hx2,Yb h3 (by decide),Yb h4 (by decide),Yb h5 (by decide),Yb h6 (by decide),fun x H' s hx=>q x H' ((s1.trans s2).trans s) hx⟩
abbrev zci:List Str:=["book","worths","grove","tree","many"]
theorem sc_q67:FnScope zci ["book","worths","grove"] (defScope z43):=⟨rfl,rfl,rfl,by decide +kernel,rfl,by decide +kernel,by decide +kernel⟩
theorem zgc {n:Nat} {C_Book:Addr} (B:BI mg) (G_q27:Got P w K mg base "all_together" ["some"] (2) (z6n K)) (G_q62:Got P w K mg base "many_of" ["ladder","many"] (1) (z27 K)) (G_q68:Got P w K mg base "reckoned_tree" ["book","worths","tree"] (2*n+6) (z1l K C_Book n)) (F:Fun K "reckoned" "reckoned" z43 f fd):FnOk P w K mg base CX0 (2*n+7) f fd ["book","worths","grove"] (z1f K C_Book (n+1)):=by
 refine F.ok sc_q67 (fun vs H Q E h=>?_) (fun cdv A outer s H vs Q E hr h=>?_)
 ·obtain ⟨v,u,d,b,ρ,ns,g,rfl,_⟩:=h
  rfl
 obtain ⟨v,u,d,b,ρ,ns,g,rfl,hv,hl,hw,hg,hgd,hfit,hp,q⟩:=h;have hun2:=hunT hr;refine ⟨_,Qe (Qj (z00 G_q27 (hr.mono (by omega)) rfl (Qa (pe_lc (own:=[("tree",3),("many",4)]) (g:=(gTup K 2 (gCons (gName 3) (gCons (gName 4) gNil)))) (tt:=tYes) (te:=(tCall (z27 K) [] E0 (tCons (tCall (z1l K C_Book n) [] E0 (tCons (tVar 0) (tCons (tVar 1) (tCons (tVar 3) tNil)))) (tCons (tVar 4) tNil)))) rfl sc_q67.nd (pi_tup (pv 2)) (blkOk_by (N:=zci) (sc:=defScope z43) (by decide +kernel)) (fun _ _ _ _ _=>(pg_tup rfl (Qi (pg_name (i:=3) sc_q67.nd rfl (.inl rfl)) (Qi (pg_name (i:=4) sc_q67.nd rfl (.inl rfl)) pgs_nil)))) (fun _ _ _ _ _=>pts_nil) (fun _ _ _ _ _=>(z00 G_q62 (hr.mono (by omega)) rfl (Qa (z00 G_q68 (hr.mono (by omega)) rfl (Qa (pv 0) (Qa (pv 1) (Qa (pv 3) Qb)))) (Qa (pv 4) Qb))))) Qb))),?_⟩;obtain ⟨a,xs,rfl,hs,hb⟩:=z0u hg;have xl:=hb.length;have lp:=g.len_parts;have szl:=sizeLine_eq;refine ⟨_,rfl,a,rfl,⟨xs,hs⟩,fun D hD=>?_⟩;refine z0i (walk_tup (xs:=xs)) hD (by omega) (fun i us H2=>Bears K H2 Lad.enc us ((g.ps.take i).map fun p:Tr × Int=>Lad.tms (Gr.rkt b ρ p.1) p.2)) .nil (fun H2 s2=>s2.sqT hs) (fun i us H2 H3 s3 h=>h.sb s3 Lad.noList_enc) (fun Pv i x Hq H2 us hi s2 y hR hu fin skip=>?_) (fun us H2 s2 hD2 hR hu=>?_)
 ·obtain ⟨rfl,ey⟩:=y;obtain ⟨p,ep,hpd⟩:=hb.get ey;have pm:=Qu ep;obtain ⟨ad,td,ux,rfl,hs2,hs3,hga,htd⟩:=z0h hpd;obtain ⟨⟨f1,f2,f3,f4,f5,f6,f7,f8⟩,f9⟩:=hfit.at p pm;have pd:=g.mem_deep p pm;have pp:=g.mem_parts p pm;refine ⟨ad,_,rfl,s2.sqT hs2,rfl,_,_,rfl,_,_,rfl,rfl,rfl,?_⟩;refine ⟨_,rfl,_,rfl,_,rfl,v,.ref td,d,b,ρ,ns,p.1.1,p.1.2,rfl,hv.sb0 s2,hl,hw.sb0 s2,z0a s2 _ _ (Gr.noList_tEnc _) htd,by omega,⟨f1,f2,f3,f4,f5⟩,f9,by omega,fun x H3 s3 hx=>?_⟩;refine ⟨_,rfl,x,_,p.2,rfl,hx,Yb f6.parts (by decide),f6.num,f7,f8,fun y H4 s4 hy=>fin y H4 (s3.trans s4) ?_⟩;rw [Yg,ep,Yj];exact (hR.sb (s3.trans s4) Lad.noList_enc).append (.cons hy .nil)
 ·rw [xl,Yh,<- Gr.rkT_ps] at hR;refine ⟨D,us,Gr.rkT b ρ g,rfl,SqL.of hD2,hR,fun l hm=>?_,Yb hfit.len (by decide),fun x H' s hx=>q x H' (s2.trans s) hx⟩;rw [Gr.rkT_ps] at hm;obtain ⟨p,pm,rfl⟩:=Qx hm;exact Yb (Lad.tms_deep _ (hfit.at p pm).1.2.2.2.2.2.1.deep) (by decide)
abbrev zha:List Str:=["book","worths","tree","kind","held"]
theorem sc_q68:FnScope zha ["book","worths","tree"] (defScope z5d):=⟨rfl,rfl,rfl,by decide +kernel,rfl,by decide +kernel,by decide +kernel⟩
theorem zad {n:Nat} {C_Book:Addr} (B:BI mg) (G_q56:Got P w K mg base "laden" ["book","kind","own","inner"] (5) (z8c K C_Book)) (G_q67:Got P w K mg base "reckoned" ["book","worths","grove"] (2*n+5) (z1f K C_Book n)) (F:Fun K "reckoned_tree" "reckoned_tree" z5d f fd):FnOk P w K mg base CX0 (2*n+6) f fd ["book","worths","tree"] (z1l K C_Book n):=by
 refine F.ok sc_q68 (fun vs H Q E h=>?_) (fun cdv A outer s H vs Q E hr h=>?_)
 ·obtain ⟨v,t,d,b,ρ,ns,k,g,rfl,_⟩:=h
  rfl
 obtain ⟨v,t,d,b,ρ,ns,k,g,rfl,hv,hl,hw,ht,hgd,⟨kn,kb,kne,fk,fg⟩,hfit,hp,q⟩:=h;have hun2:=hunT hr;refine ⟨_,Qc (ps_asg (pv 2) (pg_tup rfl (Qi (pg_name (i:=3) sc_q68.nd rfl (.inl rfl)) (Qi (pg_name (i:=4) sc_q68.nd rfl (.inl rfl)) pgs_nil))))
  (Qe (Qj (z00 G_q56 (hr.mono (by omega)) rfl (Qa (pv 0) (Qa (pv 3) (Qa (pe_dget (by show A.units+3+1 < cLine; omega) (pv 1) (pv 3) (fun _ _=>rfl)) (Qa (z00 G_q67 (hr.mono (by omega)) rfl (Qa (pv 0) (Qa (pv 1) (Qa (pv 4) Qb)))) Qb))))))),?_⟩
 obtain ⟨a,u,rfl,hs,hga⟩:=z4r ht;obtain ⟨ux,hux,hul⟩:=hw.val kn;refine ⟨_,rfl,a,_,rfl,hs,rfl,_,_,rfl,_,_,rfl,rfl,?_⟩;refine ⟨_,rfl,_,rfl,_,rfl,_,rfl,d,ux,rfl,hux,?_⟩;refine ⟨_,rfl,_,rfl,_,rfl,v,u,d,b,ρ,ns,g,rfl,hv,hl,hw,hga,hgd,hfit,hp,fun x H1 s1 hx=>?_⟩;exact ⟨v,ux,x,b,k,ρ k,Gr.rk b ρ g,rfl,hv.sb0 s1,hl,kb,⟨hul.sb s1,kne,fk⟩,⟨hx,fg⟩,fun y H2 s2 hy=>q y H2 (s1.trans s2) hy⟩
abbrev zjh:List Str:=["book","kind","own","inner"]
theorem zfz:FnScope zjh ["book","kind","own","inner"] (defScope z60):=⟨rfl,rfl,rfl,by decide +kernel,rfl,by decide +kernel,by decide +kernel⟩
theorem zer {C_Book C_NoKind:Addr} (B:BI mg) (G_q3:z2e P w K mg base C_Book "spreads" ["self","name"] (4) (z1s K C_Book C_NoKind)) (G_q73:Got P w K mg base "spread" ["one","other"] (3) (z7s K)) (G_q30:Got P w K mg base "behind" ["one","other"] (2) (z20 K)) (F:Fun K "laden" "laden" z60 f fd):FnOk P w K mg base CX0 (5) f fd ["book","kind","own","inner"] (z8c K C_Book):=by
 refine F.ok zfz (fun vs H Q E h=>?_) (fun cdv A outer s H vs Q E hr h=>?_)
 ·obtain ⟨v,u,t,b,n,o,l,rfl,_⟩:=h
  rfl
 obtain ⟨v,u,t,b,n,o,l,rfl,hv,hl,hn,⟨hu,hne,fo⟩,⟨ht,fl⟩,q⟩:=h;have hun2:=hunT hr;refine ⟨_,Qc (Qr (Qo (zbu G_q3 (hr.mono (by omega)) (pv 0) (Qa (pv 1) Qb))) (Qe (Qj (z00 G_q73 (hr.mono (by omega)) rfl (Qa (pv 2) (Qa (pv 3) Qb))))) pss_nil)
  (Qe (Qj (z00 G_q30 (hr.mono (by omega)) rfl (Qa (pv 2) (Qa (pv 3) Qb))))),?_⟩
 obtain ⟨va,vdx,vd1,vd2,rfl,hva⟩:=hv.at;obtain ⟨kd,eg⟩:=Bk.get_of hn;refine ⟨_,rfl,va,vdx,_,rfl,hva,rfl,_,rfl,?_⟩;refine ⟨_,b,n,rfl,hv,hl,fun k' e' H1 s1=>?_,fun z=>by rw [eg] at z; cases z⟩;rw [eg] at e';cases e';refine ⟨_,rfl,?_⟩;have hwd:b.wide n=kd.w:=Bk.wide_get eg;cases hk:kd.w with
 | true =>
  refine iteT ⟨_,rfl,_,rfl,?_⟩;cases o with
  | nil=>exact absurd rfl hne
  | cons e m r =>
  refine ⟨u,t,e,m,r,l,rfl,hu.sb s1,ht.sb s1,Yb fo.deep (by decide),Yb fl.deep (by decide),Yb fo.parts (by decide),Yb fl.parts (by decide),fun x H' s2 hx=>q x H' (s1.trans s2) ?_⟩;rw [hwd,hk];exact hx
 | false =>
  refine iteF ⟨_,rfl,_,rfl,?_⟩;refine ⟨u,t,o,l,rfl,hu.sb s1,ht.sb s1,Yb fo.deep (by decide),Yb fl.deep (by decide),Yb fo.parts (by decide),Yb fl.parts (by decide),fun x H' s2 hx=>q x H' (s1.trans s2) ?_⟩;rw [hwd,hk];exact hx
abbrev zig:List Str:=["book","grove","ladder","owns"]
theorem sc_q41:FnScope zig ["book","grove","ladder"] (defScope z69):=⟨rfl,rfl,rfl,by decide +kernel,rfl,by decide +kernel,by decide +kernel⟩
theorem zfc {C_NoReach C_Book C_NoKind:Addr} (B:BI mg) (O_NoReach:Own K mg "NoReach" C_NoReach) (G_q34:GotX P w K mg base "check_kinds" ["book","grove"] (72) (z6d K C_Book)) (G_q32:GotX P w K mg base "check_ends" ["book","grove"] (72) (z77 K C_Book C_NoKind)) (G_q64:Got P w K mg base "own_ranks" ["book"] (47) (z5k K C_Book C_NoKind)) (G_q46:Got P w K mg base "is_less" ["one","other"] (1) (z1g K)) (G_q67:Got P w K mg base "reckoned" ["book","worths","grove"] (45) (z1f K C_Book 20)) (G_q38:GotX P w K mg base "fall_in_grove" ["book","owns","grove","goal"] (91) (z1v K C_Book 20)) (F:Fun K "fall_to" "fall_to" z69 f fd):FnOk P w K mg base (L2.CX P w) (94) f fd ["book","grove","ladder"] (z7y K C_Book C_NoKind C_NoReach):=by
 refine F.okX sc_q41 (fun vs H Q E h=>?_) (fun cdv A outer s H vs Q E hr h=>?_)
 ·obtain ⟨v,z,y,b,ρ,g,t,D,E0_,B0,P0,rfl,_⟩:=h
  rfl
 obtain ⟨v,z,y,b,ρ,g,t,D,E0_,B0,P0,rfl,hv,⟨ok,ow,hR⟩,⟨hz,hgd,gp,go,gn,ge⟩,⟨hfit,fg,gb⟩,⟨hy,to,t1,b1,td,tp,tx⟩,q,qE⟩:=h;have hun2:=hunT hr;refine ⟨_,Qc (ps_expr (z0k G_q34 (hr.mono (by omega)) rfl (takes_of rfl rfl rfl rfl) (Qa (pv 0) (Qa (pv 1) Qb))))
  (Qc (ps_expr (z0k G_q32 (hr.mono (by omega)) rfl (takes_of rfl rfl rfl rfl) (Qa (pv 0) (Qa (pv 1) Qb))))
  (Qc (ps_set (i:=3) sc_q41.nd rfl (.inl rfl) (z00 G_q64 (hr.mono (by omega)) rfl (Qa (pv 0) Qb)))
  (Qc (Qr (Qp (Qo (z00 G_q46 (hr.mono (by omega)) rfl (Qa (pv 2) (Qa (z00 G_q67 (hr.mono (by omega)) rfl (Qa (pv 0) (Qa (pv 3) (Qa (pv 1) Qb)))) Qb))))) (Qe (ps_raise rfl (takes_of rfl rfl rfl rfl) (pmk_own PySem.F.excBase_ValueError O_NoReach.q O_NoReach.gC O_NoReach.k (raises_own O_NoReach.s O_NoReach.t) rfl))) pss_nil)
  (Qe (Qj (z0k G_q38 (hr.mono (by omega)) rfl (takes_of rfl rfl rfl rfl) (Qa (pv 0) (Qa (pv 3) (Qa (pv 1) (Qa (pv 2) Qb)))))))))),?_⟩
 have b8:=ok.len;refine ⟨_,rfl,_,rfl,v,z,b,g,rfl,hv,hz,by omega,by omega,by omega,gn,fun H1 s1=>?_⟩;refine ⟨_,rfl,_,rfl,v,z,b,g,rfl,hv.sb0 s1,ok,hz.sb s1,by omega,by omega,gn,ge,fun H2 s2=>?_⟩;have s02:=s1.trans s2;refine ⟨_,rfl,v,b,ρ,rfl,hv.sb0 s02,ok,ow,fun d es H3 s3 nd hw eo=>?_⟩;refine z02 ?_;have s03:=s02.trans s3;have hf:=hfit es (fun n hn hen=>(eo.mem n).mpr ⟨hn,hen⟩);refine ⟨_,rfl,_,rfl,_,rfl,_,rfl,v,z,d,b,ρ,es,g,rfl,hv.sb0 s03,by omega,hw,hz.sb s03,by omega,hf,gp,fun x H4 s4 hx=>?_⟩;have s04:=s03.trans s4;refine ⟨y,x,t,_,rfl,hy.sb s04,hx,by omega,_,rfl,?_⟩;cases hc:t.lt (Gr.rk b ρ g) with
 | false =>
  refine iteT ?_;exact qE hc _ s04
 | true =>
  refine iteF ?_;have G:=zga ok ow eo hR;refine ⟨_,rfl,_,rfl,_,rfl,_,rfl,v,z,y,d,b,ρ,es,g,t,D,E0_,B0,P0,rfl,hv.sb0 s04,hw.sb0 s4,G,hz.sb s04,hgd,hf,⟨fg,⟨gp,hgd⟩,go,gb⟩,⟨hy.sb s04,to,t1,b1,td,tp,tx⟩,hc,fun p H5 pl i r n s5 hp hr hn=>?_⟩;exact q hc p H5 pl i r n (s04.trans s5) hp hr hn
abbrev z7r:List Str:=["book","owns","grove","goal","ladders","whole","at","place","rule","number","tree","many","ladder"]
theorem sc_q38:FnScope z7r ["book","owns","grove","goal"] (defScope z2a):=⟨rfl,rfl,rfl,by decide +kernel,rfl,by decide +kernel,by decide +kernel⟩
theorem ze2 {n:Nat} {C_Book:Addr} (B:BI mg) (G_q68:Got P w K mg base "reckoned_tree" ["book","worths","tree"] (46) (z1l K C_Book 20)) (G_q27:Got P w K mg base "all_together" ["some"] (2) (z6n K)) (G_q62:Got P w K mg base "many_of" ["ladder","many"] (1) (z27 K)) (G_q39:GotX P w K mg base "fall_in_tree" ["book","owns","tree","goal"] (2*n+52) (z4q K C_Book n)) (G_q43:GotX P w K mg base "goal_of_one" ["whole","ladder","goal"] (4) (zan K)) (F:Fun K "fall_in_grove" "fall_in_grove" z2a f fd):FnOk P w K mg base (L2.CX P w) (2*n+53) f fd ["book","owns","grove","goal"] (z1v K C_Book (n+1)):=by
 refine F.okX sc_q38 (fun vs H Q E h=>?_) (fun cdv A outer s H vs Q E hr h=>?_)
 ·obtain ⟨v,z,y,d,b,ρ,es,g,t,D,E0_,B0,P0,rfl,_⟩:=h
  rfl
 obtain ⟨v,z,y,d,b,ρ,es,g,t,D,E0_,B0,P0,rfl,hv,hw,G,hz,hgd,hfit,⟨fg,⟨gp,gdd⟩,go,gb⟩,⟨hy,to,t1,b1,td,tp,tx⟩,hlt,q⟩:=h;have hun2:=hunT hr;refine ⟨_,Qc (ps_setLc (i:=4) (own:=[("tree",10),("many",11)]) (g:=(gTup K 2 (gCons (gName 10) (gCons (gName 11) gNil)))) (tt:=tYes) (te:=(tCall (z1l K C_Book 20) [] E0 (tCons (tVar 0) (tCons (tVar 1) (tCons (tVar 10) tNil))))) rfl sc_q38.nd rfl rfl (sw_true rfl rfl rfl (by decide +kernel)) (pi_tup (pv 2)) (blkOk_by (N:=z7r) (sc:=defScope z2a) (by decide +kernel)) (fun _ _ _ _ _=>(pg_tup rfl (Qi (pg_name (i:=10) sc_q38.nd rfl (.inl rfl)) (Qi (pg_name (i:=11) sc_q38.nd rfl (.inl rfl)) pgs_nil)))) (fun _ _ _ _ _=>pts_nil) (fun _ _ _ _ _=>(z00 G_q68 (hr.mono (by omega)) rfl (Qa (pv 0) (Qa (pv 1) (Qa (pv 10) Qb))))))
  (Qc (ps_set (i:=5) sc_q38.nd rfl (.inl rfl) (z00 G_q27 (hr.mono (by omega)) rfl (Qa (pe_lc (own:=[("ladder",12),("tree",10),("many",11)]) (g:=(gTup K 2 (gCons (gName 12) (gCons (gTup K 2 (gCons (gName 10) (gCons (gName 11) gNil))) gNil)))) (tt:=tYes) (te:=(tCall (z27 K) [] E0 (tCons (tVar 12) (tCons (tVar 11) tNil)))) rfl sc_q38.nd (zd9 rfl B.zip (Qa (pv 4) (Qa (pv 2) Qb))) (blkOk_by (N:=z7r) (sc:=defScope z2a) (by decide +kernel)) (fun _ _ _ _ _=>(pg_tup rfl (Qi (pg_name (i:=12) sc_q38.nd rfl (.inl rfl)) (Qi (pg_tup rfl (Qi (pg_name (i:=10) sc_q38.nd rfl (.inl rfl)) (Qi (pg_name (i:=11) sc_q38.nd rfl (.inl rfl)) pgs_nil))) pgs_nil)))) (fun _ _ _ _ _=>pts_nil) (fun _ _ _ _ _=>(z00 G_q62 (hr.mono (by omega)) rfl (Qa (pv 12) (Qa (pv 11) Qb))))) Qb)))
  (Qc (ps_set (i:=6) sc_q38.nd rfl (.inl rfl) (pe_bm PySem.F.plainAttrs_list PySem.F.slot_list_index PySem.F.type_list_index (z7i (by show A.units+3+196 < cLine; omega)) (pe_lc (own:=[("ladder",12)]) (g:=(gName 12)) (tt:=tYes) (te:=(tOp (rIxT K) (tOp (rIxT K) (tVar 12) (tUn (rU fun i=>.int (-i)) (tC (.int 1)))) (tC (.int 0)))) rfl sc_q38.nd (pi_list (pv 4)) (blkOk_by (N:=z7r) (sc:=defScope z2a) (by decide +kernel)) (fun _ _ _ _ _=>(pg_name (i:=12) sc_q38.nd rfl (.inl rfl))) (fun _ _ _ _ _=>pts_nil) (fun _ _ _ _ _=>(Qm Ql (Qm Ql (pv 12) (pe_un un_neg Qg) (fun _ _=>rfl)) Qg (fun _ _=>rfl)))) (Qa (Qm Ql (Qm Ql (pv 5) (pe_un un_neg Qg) (fun _ _=>rfl)) Qg (fun _ _=>rfl)) Qb)))
  (Qc (ps_asg (z0k G_q39 (hr.mono (by omega)) rfl (takes_of rfl rfl rfl rfl) (Qa (pv 0) (Qa (pv 1) (Qa (Qm Ql (Qm Ql (pv 2) (pv 6) (fun _ _=>rfl)) Qg (fun _ _=>rfl)) (Qa (z0k G_q43 (hr.mono (by omega)) rfl (takes_of rfl rfl rfl rfl) (Qa (pv 5) (Qa (Qm ix_list (pv 4) (pv 6) (fun _ _=>rfl)) (Qa (pv 3) Qb)))) Qb))))) (pg_tup rfl (Qi (pg_name (i:=7) sc_q38.nd rfl (.inl rfl)) (Qi (pg_name (i:=8) sc_q38.nd rfl (.inl rfl)) (Qi (pg_name (i:=9) sc_q38.nd rfl (.inl rfl)) pgs_nil)))))
  (Qe (Qj (pe_tup (Qa (pe_op z0y (pe_tup (Qa (pv 6) Qb)) (pv 7)) (Qa (pv 8) (Qa (pv 9) Qb))))))))),?_⟩
 have szl:=sizeLine_eq;have b8:=G.ok.len;have rt:Lad.R t:=⟨D,t1,to⟩;have gnm:=hfit.named;have rw':=Gr.G_R (b:=b) G.toGoods go gnm;have gne:g ≠ .nil:=fun z=>by
  rw [z,Gr.rk_nil,Lad.lt_nil_r] at hlt; cases hlt
 have wne:=Gr.rk_ne (b:=b) G.toGoods go gnm gne;obtain ⟨a,xs,rfl,hs,hb⟩:=z0u hz;have xl:=hb.length;have lp:=g.len_parts;refine ⟨_,rfl,a,rfl,⟨xs,hs⟩,fun D1 nD1=>?_⟩;refine z0i (walk_tup (xs:=xs)) nD1 (by omega) (fun i us H2=>Bears K H2 Lad.enc us ((g.ps.take i).map fun p:Tr × Int=>Gr.rkt b ρ p.1)) .nil (fun H2 s2=>s2.sqT hs) (fun i us H2 H3 s3 h=>h.sb s3 Lad.noList_enc) (fun Pv i x Hq H2 us hi s2 y hR hu fin skip=>?_) (fun us H2 s2 hD2 hR hu=>?_)
 ·obtain ⟨rfl,ey⟩:=y;obtain ⟨p,ep,hpd⟩:=hb.get ey;have pm:=Qu ep;obtain ⟨ad,td',ux,rfl,hs2,hs3,hga,htd⟩:=z0h hpd;obtain ⟨⟨f1,f2,f3,f4,f5,f6,f7,f8⟩,f9⟩:=hfit.at p pm;have pd:=g.mem_deep p pm;have pp:=g.mem_parts p pm;refine ⟨ad,_,rfl,s2.sqT hs2,rfl,_,_,rfl,_,_,rfl,rfl,rfl,?_⟩;refine ⟨_,rfl,_,rfl,_,rfl,v,.ref td',d,b,ρ,es,p.1.1,p.1.2,rfl,hv.sb0 s2,by omega,hw.sb0 s2,z0a s2 _ _ (Gr.noList_tEnc _) htd,by omega,⟨f1,f2,f3,f4,f5⟩,f9,by omega,fun x H3 s3 hx=>fin x H3 s3 ?_⟩;rw [Yg,ep,Yj];exact (hR.sb s3 Lad.noList_enc).append (.cons hx .nil)
 rw [xl,Yh] at hR;have ul:=hR.length;rw [Ye] at ul;refine z02 ?_;refine ⟨_,rfl,_,rfl,D1,a,us,xs,rfl,SqL.of hD2,s2.sqT hs,fun D3 nD3=>?_⟩;refine z0i (zac (xs:=us) (ys:=xs) (n:=g.ps.length) (by omega)) nD3 (by omega) (fun i ws H3=>Bears K H3 Lad.enc ws ((g.ps.take i).map fun p:Tr × Int=>Lad.tms (Gr.rkt b ρ p.1) p.2)) .nil (fun H3 s3=>⟨s3.sqL nmn (SqL.of hD2),(s2.trans s3).sqT hs⟩) (fun i us H2 H3 s3 h=>h.sb s3 Lad.noList_enc) (fun Pv i x Hq H3 ws hi s3 y hR3 hu3 fin skip=>?_) (fun ws H3 s3 hD3 hR3 hu3=>?_)
 ·obtain ⟨T,x1,y1,rfl,hT,rfl,ex,ey⟩:=y;obtain ⟨p,ep,hpd⟩:=hb.get ey;obtain ⟨l',el,hld⟩:=hR.get ex;rw [List.getElem?_map,ep] at el;cases el;have pm:=Qu ep;have s3':=SB.new (ps:=[]) hT (.tup [x1,y1]);obtain ⟨ad,td',ux,rfl,hs2,hs3,hga,htd⟩:=z0h hpd;obtain ⟨⟨f1,f2,f3,f4,f5,f6,f7,f8⟩,f9⟩:=hfit.at p pm;refine ⟨T,_,rfl,SqT.of Qt,rfl,_,_,rfl,_,_,rfl,ad,_,rfl,(s2.trans (s3.trans s3')).sqT hs2,rfl,_,_,rfl,_,_,rfl,rfl,rfl,rfl,?_⟩;have s33:=s3.trans s3';refine ⟨_,rfl,_,rfl,x1,_,p.2,rfl,(show LA K H2 x1 (Gr.rkt b ρ p.1) from hld).sb s33,f6.parts,f6.num,f7,f8,fun y4 H4 s4 hy4=>fin y4 H4 (s3'.trans s4) ?_⟩;rw [Yg,ep,Yj];exact (hR3.sb (s3'.trans s4) Lad.noList_enc).append (.cons hy4 .nil)
 rw [List.take_of_length_le (Yc _),<- Gr.rkT_ps] at hR3;have s03:=s2.trans s3;refine nilI ?_;refine ⟨D3,ws,Gr.rkT b ρ g,rfl,SqL.of hD3,hR3,fun l hm=>?_,hfit.len,fun wv H4 s4 hwv=>?_⟩
 ·rw [Gr.rkT_ps] at hm;obtain ⟨p,pm,rfl⟩:=Qx hm;exact Yb (Lad.tms_deep _ (hfit.at p pm).1.2.2.2.2.2.1.deep) (by decide)
 refine z02 ?_;have s04:=s03.trans s4;have hD4:H4 D1=some (.lst us):=(s3.trans s4).keep _ _ hD2 nmn;have hus:=hR.sb (s3.trans s4) Lad.noList_enc;refine ⟨_,rfl,D1,rfl,⟨us,SqL.of hD4⟩,fun D5 nD5=>?_⟩;refine z90 (walk_list (xs:=us)) [] nD5 (by simp) (by omega) (fun i ws5 H5=>Bears K H5 Lad.enc ws5 ((g.ps.take i).map fun p:Tr × Int=>Lad.lst (Gr.rkt b ρ p.1))) .nil (fun H5 s5=>s5.sqL nmn (SqL.of hD4)) (fun i us H2 H3 s3 h=>h.sb s3 Lad.noList_enc) (fun Pv i x Hq H5 ws5 hi s5 y hR5 hu5 _ fin skip=>?_) (fun ws5 H5 s5 hD5 hR5 hu5=>?_)
 ·obtain ⟨rfl,ey⟩:=y;obtain ⟨l',el,hld⟩:=hus.get ey;rw [List.getElem?_map] at el;obtain ⟨p,ep,rfl⟩:=Option.map_eq_some_iff.mp el;have pm:=Qu ep;obtain ⟨n1,n2⟩:=Gr.named_iff.mp gnm p pm;have o2:=(Gr.ok_mem go pm).2.1;obtain ⟨qs,pq,eq⟩:=Lad.snoc_of (Gr.rkt_ne (b:=b) G.toGoods n1 o2 n2);obtain ⟨al,xl5,rfl,hsl,hbl⟩:=z05 (show LA K H4 x (Gr.rkt b ρ p.1) from hld);rw [eq] at hbl;obtain ⟨us7,u7,rfl,hb7,hu7⟩:=hbl.snoc;obtain ⟨c7,ue7,rfl,hsc7,hle7⟩:=z0b hu7;refine ⟨rfl,_,rfl,_,rfl,al,_,_,_,rfl,rfl,s5.sqT hsl,z1t,c7,_,_,_,rfl,rfl,s5.sqT hsc7,atI_nat (j:=0) rfl,fin _ _ SB.refl ?_⟩;rw [Yg,ep,Yj];refine hR5.append (.cons ?_ .nil);show Dp K H5 ue7 (Lad.lst (Gr.rkt b ρ p.1)).enc;rw [show Lad.lst (Gr.rkt b ρ p.1)=pq.1 from Lad.lst_of eq];exact hle7.sb s5
 have ul5:us.length=g.ps.length:=ul;rw [ul5,Yh] at hR5;have hmem:Lad.lst (Gr.rk b ρ g) ∈ g.ps.map fun p:Tr × Int=>Lad.lst (Gr.rkt b ρ p.1):=by
  obtain ⟨p,hp,e⟩:=Gr.lst_tree (b:=b) G.toGoods go gnm gne;exact List.mem_map.mpr ⟨p,hp,e⟩
 obtain ⟨j,hj,hbef⟩:=z3d hmem;have hjr:=hj;rw [List.getElem?_map] at hjr;obtain ⟨p,ep,ecl⟩:=Option.map_eq_some_iff.mp hjr;have pm:=Qu ep;have dps:=z22 hR5;have ged:∀ i:Nat,((g.ps.map fun p:Tr × Int=>Lad.lst (Gr.rkt b ρ p.1)).map Lad.enc)[i]?=((g.ps.map fun p:Tr × Int=>Lad.lst (Gr.rkt b ρ p.1))[i]?).map Lad.enc:=fun i=>List.getElem?_map ..;obtain ⟨qs,pq,eq⟩:=Lad.snoc_of wne;obtain ⟨al,xl5,rfl,hsl,hbl⟩:=z05 (show LA K H4 wv (Gr.rk b ρ g) from hwv);rw [eq] at hbl;obtain ⟨us7,u7,rfl,hb7,hu7⟩:=hbl.snoc;obtain ⟨c7,ue7,rfl,hsc7,hle7⟩:=z0b hu7;have hle8:LA K H5 ue7 (Lad.lst (Gr.rk b ρ g)):=by
  rw [Lad.lst_of eq]; exact LA.sb hle7 s5
 have wd:=fg.deep;have ld:=Lad.lst_deep (Gr.rk b ρ g);refine ⟨.inl ⟨rfl,_,SqL.of hD5⟩,_,rfl,_,rfl,al,_,_,_,rfl,rfl,s5.sqT hsl,z1t,c7,_,_,_,rfl,rfl,s5.sqT hsc7,atI_nat (j:=0) rfl,D5,ue7,(Lad.lst (Gr.rk b ρ g)).enc,_,j,(Lad.lst (Gr.rk b ρ g)).enc,rfl,rfl,.lst (SqL.of hD5) dps,hle8,?_,Wd.of (Lad.shaped_enc (by omega)),by rw [ged,hj]; rfl,by rw [Lad.eqv_enc]; exact Ya rfl,fun m z' hm hz=>?_,?_⟩
 ·refine Lad.lay_lads _ fun l hl=>?_;obtain ⟨q',qm,rfl⟩:=Qx hl;have h1:=(hfit.at q' qm).1.2.2.2.2.2.1.deep;have h2:=Lad.lst_deep (Gr.rkt b ρ q'.1);omega
 ·rw [ged] at hz;obtain ⟨l',el',rfl⟩:=Option.map_eq_some_iff.mp hz;rw [Lad.eqv_enc];exact Qz fun z=>hbef m hm (by rw [el',z])
 refine z02 ?_;have s05:=s04.trans s5;have jl:j < us.length:=by
  rw [ul5];exact (List.getElem?_eq_some_iff.mp ep).1
 obtain ⟨uj,euj⟩:∃ uj,us[j]?=some uj:=⟨_,List.getElem?_eq_getElem jl⟩;obtain ⟨l',el,hld⟩:=(hus.sb s5 Lad.noList_enc).get euj;rw [List.getElem?_map,ep] at el;cases el;obtain ⟨xj,exj⟩:∃ xj,xs[j]?=some xj:=⟨_,List.getElem?_eq_getElem (by omega)⟩;obtain ⟨p',ep',hpd⟩:=hb.get exj;rw [ep] at ep';cases ep';obtain ⟨ad,td',ux,rfl,hs2,hs3,hga,htd⟩:=z0h hpd;obtain ⟨⟨f1,f2,f3,f4,f5,f6,f7,f8⟩,f9⟩:=hfit.at p pm;obtain ⟨n1,n2⟩:=Gr.named_iff.mp gnm p pm;obtain ⟨nk,o2,_⟩:=Gr.ok_mem go pm;have pd:=g.mem_deep p pm;have pp:=g.mem_parts p pm;obtain ⟨⟨bp,bo⟩,bd⟩:=gb.at pm;have lne:=Gr.rkt_ne (b:=b) G.toGoods n1 o2 n2;have rl:=Gr.rkt_R (b:=b) G.toGoods n1 o2 n2;have hwv5:LA K H5 (.ref al) (Gr.rk b ρ g):=LA.sb hwv s5;refine ⟨_,rfl,_,rfl,_,rfl,_,rfl,a,xs,(j:Int),_,rfl,rfl,s05.sqT hs,atI_nat exj,ad,_,_,_,rfl,rfl,s05.sqT hs2,atI_nat (j:=0) rfl,?_⟩;refine ⟨_,rfl,_,rfl,_,rfl,D1,us,(j:Int),uj,rfl,rfl,SqL.of (s5.keep _ _ hD4 nmn),atI_nat euj,?_⟩;refine ⟨_,rfl,.ref al,uj,y,Gr.rk b ρ g,Gr.rkt b ρ p.1,t,rfl,⟨hwv5,hld,hy.sb s05⟩,⟨wne,lne⟩,⟨fg.deep,f6.deep,td⟩,⟨fg.parts,f6.parts,by omega⟩,fun gx H6 s6 hgx=>?_⟩;refine nilI ?_;have s06:=s05.trans s6;obtain ⟨A0,hA0,hA1⟩:=rw';have rw':=Gr.G_R (b:=b) G.toGoods go gnm;have m1:=Nat.mul_le_mul_left P0 (show p.1.2.deep+1<=g.deep by omega);rw [Nat.mul_add] at m1;have m2:B0*((p.1.2.deep:Nat):Int)+B0<=B0*((g.deep:Nat):Int):=by
  have:=Int.mul_le_mul_of_nonneg_left (show ((p.1.2.deep:Nat):Int)+1<=((g.deep:Nat):Int) by omega) (show 0<=B0 by omega);rw [Int.mul_add] at this;omega
 have m3:=Lad.gone_parts (Gr.rk b ρ g) (Gr.rkt b ρ p.1) t;refine ⟨v,.ref td',gx,d,b,ρ,es,p.1.1,p.1.2,Lad.gone (Gr.rk b ρ g) (Gr.rkt b ρ p.1) t,B0+D,E0_,B0,P0,rfl,hv.sb0 s06,hw.sb0 s06,G,z0a s06 _ _ (Gr.noList_tEnc _) htd,by omega,⟨f1,f4,f5,nk⟩,f9,⟨⟨by omega,by omega⟩,o2,bd⟩,⟨hgx,Lad.gone_ok hA1 hA0 bo b1 to t1,by omega,b1,Lad.gone_deep f6.deep td,by omega,by omega⟩,Lad.gone_lt rw' wne rl lne rt ecl.symm hlt,fun p7 H7 pl i7 r7 n7 s7 hp7 hr7 hn7=>?_⟩;obtain ⟨ap,hq1,hq2⟩:=hp7;refine ⟨p7,_,rfl,hq1,rfl,_,_,rfl,_,_,rfl,_,_,rfl,rfl,?_⟩;refine ⟨_,rfl,by show 1<=sizeLine; decide,fun c1 hc1=>?_⟩;have s8:=SB.new (ps:=[]) hc1 (.tup [.int (j:Nat)]);have pdl:pl.length<=100:=by
  obtain ⟨_,k0,kd0,hk0,_⟩:=hr7;rcases hk0 with ⟨h1,_⟩ | ⟨_,h1⟩
  ·rw [h1]; exact Nat.zero_le _
  ·have:pl.length<=p.1.2.deep:=Gr.bare_len h1;omega
 refine ⟨_,rfl,c1,ap,_,_,rfl,rfl,SqT.of Qt,s8.sqT hq2,by rw [Yi,Ye]; omega,fun c2 H8 s9 hc2=>?_⟩;refine ⟨_,rfl,_,rfl,by show 3<=sizeLine; decide,fun c3 hc3=>?_⟩;have s10:=SB.new (ps:=[]) hc3 (.tup [.ref c2,.int (i7:Nat),.int n7]);refine q c3 _ (j::pl) i7 r7 n7 ((s06.trans s7).trans ((s8.trans s9).trans s10)) ⟨c2,SqT.of Qt,s10.sqT hc2⟩ (Gr.reach_grove G.toGoods go gnm ep ecl rt hlt hr7) (by omega)
abbrev zjr:List Str:=["whole","ladder","goal"]
theorem zey:FnScope zjr ["whole","ladder","goal"] (defScope z6e):=⟨rfl,rfl,rfl,by decide +kernel,rfl,by decide +kernel,by decide +kernel⟩
theorem zgn (B:BI mg) (G_q30:Got P w K mg base "behind" ["one","other"] (2) (z20 K)) (G_q70:GotX P w K mg base "rest_or_nought" ["one","other"] (3) (za8 K)) (G_q60:Got P w K mg base "lowered" ["ladder"] (1) (z78 K)) (F:Fun K "goal_of_one" "goal_of_one" z6e f fd):FnOk P w K mg base (L2.CX P w) (4) f fd ["whole","ladder","goal"] (zan K):=by
 refine F.okX zey (fun vs H Q E h=>?_) (fun cdv A outer s H vs Q E hr h=>?_)
 ·obtain ⟨v,u,y,w,l,g,rfl,_⟩:=h
  rfl
 obtain ⟨v,u,y,w,l,g,rfl,⟨hv,hu,hy⟩,⟨hw,hl⟩,⟨d1,d2,d3⟩,⟨p1,p2,p3⟩,q⟩:=h;have hun2:=hunT hr;refine ⟨_,Qe (Qj (z00 G_q30 (hr.mono (by omega)) rfl (Qa (z00 G_q60 (hr.mono (by omega)) rfl (Qa (pv 1) Qb)) (Qa (z0k G_q70 (hr.mono (by omega)) rfl (takes_of rfl rfl rfl rfl) (Qa (z00 G_q60 (hr.mono (by omega)) rfl (Qa (pv 0) Qb)) (Qa (pv 2) Qb))) Qb)))),?_⟩;refine ⟨_,rfl,u,l,rfl,hu,hl,p2,fun x1 H1 s1 h1=>?_⟩;refine ⟨_,rfl,v,w,rfl,hv.sb s1,hw,p1,fun x2 H2 s2 h2=>?_⟩;have q1:=Lad.low_parts w;have q2:=Lad.low_parts l;have q3:=Lad.ron_parts (Lad.low w) g;have e1:=Lad.low_deep d1;have e2:=Lad.low_deep d2;have e3:=Lad.ron_deep (Lad.low w) g;refine ⟨_,rfl,x2,y,Lad.low w,g,rfl,h2,hy.sb (s1.trans s2),e1,d3,by omega,p3,fun x3 H3 s3 h3=>?_⟩;exact ⟨x1,x3,Lad.low l,Lad.ron (Lad.low w) g,rfl,h1.sb (s2.trans s3),h3,by omega,by omega,by omega,by omega,fun x H' s hx=>q x H' ((s1.trans s2).trans (s3.trans s)) hx⟩
abbrev zhw:List Str:=["ladder","exponent","many"]
theorem sc_q60:FnScope zhw ["ladder"] (defScope z63):=⟨rfl,rfl,rfl,by decide +kernel,rfl,by decide +kernel,by decide +kernel⟩
theorem zeh (B:BI mg) (F:Fun K "lowered" "lowered" z63 f fd):FnOk P w K mg base CX0 (1) f fd ["ladder"] (z78 K):=by
 refine F.ok sc_q60 (fun vs H Q E h=>?_) (fun cdv A outer s H vs Q E hr h=>?_)
 ·obtain ⟨v,l,rfl,_⟩:=h
  rfl
 obtain ⟨v,l,rfl,hv,hne,hp,q⟩:=h;have hun2:=hunT hr;refine ⟨_,Qc (ps_asg (Qm Ql (pv 0) (pe_un un_neg Qg) (fun _ _=>rfl)) (pg_tup rfl (Qi (pg_name (i:=1) sc_q60.nd rfl (.inl rfl)) (Qi (pg_name (i:=2) sc_q60.nd rfl (.inl rfl)) pgs_nil))))
  (Qc (Qr (pt_cmpR op_eq (pv 2) Qg (nomark _)) (Qe (Qj (pe_slice z12 (pv 0) po_none (po_some (pe_un un_neg Qg))))) pss_nil)
  (Qe (Qj (pe_op z0y (pe_slice z12 (pv 0) po_none (po_some (pe_un un_neg Qg))) (pe_tup (Qa (pe_tup (Qa (pv 1) (Qa (pe_op op_sub (pv 2) Qg) Qb))) Qb)))))),?_⟩
 obtain ⟨qs,p,e⟩:=Lad.snoc_of hne;obtain ⟨a,xs,rfl,hs,hb⟩:=z05 hv;rw [e] at hb;obtain ⟨us,u,rfl,hb1,hu⟩:=hb.snoc;obtain ⟨c,ue,rfl,hsc,hle⟩:=z0b hu;refine ⟨_,rfl,_,rfl,a,_,_,_,rfl,rfl,hs,z1t,c,_,rfl,hsc,rfl,_,_,rfl,_,_,rfl,rfl,?_⟩;have ed:decide (V.int p.2=V.int 1)=decide (p.2=1):=by simp
 have ql:=Lad.low_of e;have ul:=hb1.length;have lp:=l.len_parts;rw [<- Lad.ps_length,e,Yf] at lp;have ci:cutV (us++[V.ref c]) none (some (-1))=us:=by rw [z9q _ (by simp)]; simp
 refine ⟨_,rfl,rfl,_,rfl,?_⟩;rw [ed];by_cases hm:p.2=1
 ·rw [Ya hm];rw [if_pos hm] at ql;refine iteT ⟨_,rfl,_,rfl,-1,rfl,a,_,rfl,hs,fun c1 H1 s1 hc=>?_⟩;rw [ci] at hc;refine q _ _ s1 ?_;rw [ql];exact z0q hc (hb1.sb s1 Lad.pEnc_noList)
 ·rw [Qz hm];rw [if_neg hm] at ql;refine iteF ⟨_,rfl,_,rfl,-1,rfl,a,_,rfl,hs,fun c1 H1 s1 hc=>?_⟩;rw [ci] at hc;refine ⟨_,rfl,_,rfl,_,_,rfl,rfl,by show 2<=sizeLine; decide,fun t1 ht1=>?_⟩;have s2:=SB.new (ps:=[]) ht1 (.tup [ue,.int (p.2-1)]);refine ⟨by show 1<=sizeLine; decide,fun t2 ht2=>?_⟩;have s3:=SB.new (ps:=[]) ht2 (.tup [.ref t1]);refine ⟨c1,t2,_,_,rfl,rfl,(s2.trans s3).sqT hc,SqT.of Qt,by rw [Yi,ul]; simp only [Yi] at lp; omega,fun c3 H9 s9 hc3=>?_⟩;have s19:=s1.trans ((s2.trans s3).trans s9);refine q _ _ s19 ?_;rw [ql];refine z0q hc3 ?_;refine Bears.append (hb1.sb s19 Lad.pEnc_noList) (.cons ?_ .nil);exact Dp.tup ((s3.trans s9).sqT (SqT.of Qt)) (.cons (hle.sb s19) (.cons (.int _) .nil))
abbrev zgu:List Str:=["one","other"]
theorem zes:FnScope zgu ["one","other"] (defScope z5o):=⟨rfl,rfl,rfl,by decide +kernel,rfl,by decide +kernel,by decide +kernel⟩
theorem zfo {C_NoRest:Addr} (B:BI mg) (G_q46:Got P w K mg base "is_less" ["one","other"] (1) (z1g K)) (G_q69:GotX P w K mg base "rest" ["one","other"] (2) (zak K C_NoRest)) (F:Fun K "rest_or_nought" "rest_or_nought" z5o f fd):FnOk P w K mg base (L2.CX P w) (3) f fd ["one","other"] (za8 K):=by
 refine F.okX zes (fun vs H Q E h=>?_) (fun cdv A outer s H vs Q E hr h=>?_)
 ·obtain ⟨v,u,l,k,rfl,_⟩:=h
  rfl
 obtain ⟨v,u,l,k,rfl,hv,hu,hd,hd2,hp,hp2,q⟩:=h;have hun2:=hunT hr;refine ⟨_,Qc (Qr (Qo (z00 G_q46 (hr.mono (by omega)) rfl (Qa (pv 1) (Qa (pv 0) Qb)))) (Qe (Qj (pe_tup Qb))) pss_nil)
  (Qe (Qj (z0k G_q69 (hr.mono (by omega)) rfl (takes_of rfl rfl rfl rfl) (Qa (pv 0) (Qa (pv 1) Qb))))),?_⟩
 refine ⟨_,rfl,_,rfl,u,v,k,l,rfl,hu,hv,by omega,_,rfl,?_⟩;unfold Lad.ron at q;cases hc:k.lt l with
 | true =>
  refine iteT ?_;rw [if_pos hc] at q;exact ⟨by show 0<=sizeLine; decide,fun c hc=>q _ _ (SB.new hc _) (z10 (SqT.of Qt))⟩
 | false =>
  refine iteF ?_;rw [if_neg (by rw [hc]; decide)] at q;exact ⟨_,rfl,_,rfl,v,u,l,k,rfl,hv,hu,hd,hd2,hp,hp2,fun _ x H' s hx=>q x H' s hx,fun z=>by rw [hc] at z; cases z⟩
abbrev zjg:List Str:=["book","owns","tree","goal","kind","held","rule","number","exponent","place"]
theorem sc_q39:FnScope zjg ["book","owns","tree","goal"] (defScope z5r):=⟨rfl,rfl,rfl,by decide +kernel,rfl,by decide +kernel,by decide +kernel⟩
theorem ze3 {n:Nat} {C_Book C_NoKind:Addr} (B:BI mg) (G_q40:GotX P w K mg base "fall_of_bare" ["book","owns","kind","goal"] (50) (z9h K C_Book)) (G_q3:z2e P w K mg base C_Book "spreads" ["self","name"] (4) (z1s K C_Book C_NoKind)) (G_q38:GotX P w K mg base "fall_in_grove" ["book","owns","grove","goal"] (2*n+51) (z1v K C_Book n)) (G_q70:GotX P w K mg base "rest_or_nought" ["one","other"] (3) (za8 K)) (G_q42:Got P w K mg base "further_needed" ["goal"] (1) (z7e K)) (F:Fun K "fall_in_tree" "fall_in_tree" z5r f fd):FnOk P w K mg base (L2.CX P w) (2*n+52) f fd ["book","owns","tree","goal"] (z4q K C_Book n):=by
 refine F.okX sc_q39 (fun vs H Q E h=>?_) (fun cdv A outer s H vs Q E hr h=>?_)
 ·obtain ⟨v,z,y,d,b,ρ,es,k,g,t,D,E0_,B0,P0,rfl,_⟩:=h
  rfl
 obtain ⟨v,z,y,d,b,ρ,es,k,g,t,D,E0_,B0,P0,rfl,hv,hw,G,hz,hgd,⟨kn,fk,fg,nk⟩,hfit,⟨⟨gp,gdd⟩,go,gb⟩,⟨hy,to,t1,b1,td,tp,tx⟩,hlt,q⟩:=h;have hun2:=hunT hr;refine ⟨_,Qc (ps_asg (pv 2) (pg_tup rfl (Qi (pg_name (i:=4) sc_q39.nd rfl (.inl rfl)) (Qi (pg_name (i:=5) sc_q39.nd rfl (.inl rfl)) pgs_nil))))
  (Qc (Qr (Qp (pt_truth (pv 5) (by intro _; rfl))) (Qc (ps_asg (z0k G_q40 (hr.mono (by omega)) rfl (takes_of rfl rfl rfl rfl) (Qa (pv 0) (Qa (pv 1) (Qa (pv 4) (Qa (pv 3) Qb))))) (pg_tup rfl (Qi (pg_name (i:=6) sc_q39.nd rfl (.inl rfl)) (Qi (pg_name (i:=7) sc_q39.nd rfl (.inl rfl)) pgs_nil))))
  (Qe (Qj (pe_tup (Qa (pe_tup Qb) (Qa (pv 6) (Qa (pv 7) Qb))))))) pss_nil)
  (Qc (Qr (Qp (Qo (z4l G_q3 (hr.mono (by omega)) (takes_of rfl rfl rfl rfl) (pv 0) (Qa (pv 4) Qb)))) (Qe (Qj (z0k G_q38 (hr.mono (by omega)) rfl (takes_of rfl rfl rfl rfl) (Qa (pv 0) (Qa (pv 1) (Qa (pv 5) (Qa (z0k G_q70 (hr.mono (by omega)) rfl (takes_of rfl rfl rfl rfl) (Qa (pe_dget (by show A.units+3+1 < cLine; omega) (pv 1) (pv 4) (fun _ _=>rfl)) (Qa (pv 3) Qb))) Qb))))))) pss_nil)
  (Qc (ps_set (i:=8) sc_q39.nd rfl (.inl rfl) (pe_ifExp (pt_truth (pv 3) (by intro _; rfl)) (Qm Ql (Qm Ql (pv 3) Qg (fun _ _=>rfl)) Qg (fun _ _=>rfl)) (pe_tup Qb)))
  (Qc (ps_asg (z0k G_q38 (hr.mono (by omega)) rfl (takes_of rfl rfl rfl rfl) (Qa (pv 0) (Qa (pv 1) (Qa (pv 5) (Qa (z0k G_q70 (hr.mono (by omega)) rfl (takes_of rfl rfl rfl rfl) (Qa (Qm Ql (Qm Ql (pe_dget (by show A.units+3+1 < cLine; omega) (pv 1) (pv 4) (fun _ _=>rfl)) Qg (fun _ _=>rfl)) Qg (fun _ _=>rfl)) (Qa (pv 8) Qb))) Qb))))) (pg_tup rfl (Qi (pg_name (i:=9) sc_q39.nd rfl (.inl rfl)) (Qi (pg_name (i:=6) sc_q39.nd rfl (.inl rfl)) (Qi (pg_name (i:=7) sc_q39.nd rfl (.inl rfl)) pgs_nil)))))
  (Qe (Qj (pe_tup (Qa (pv 9) (Qa (pv 6) (Qa (Qs (call_max2 rfl) rfl B.max boot_max (Qa (pv 7) (Qa (z00 G_q42 (hr.mono (by omega)) rfl (Qa (pv 3) Qb)) Qb))) Qb)))))))))),?_⟩
 have b8:=G.ok.len;have kb:=G.sub k kn;obtain ⟨kd,eg⟩:=Bk.get_of kb;obtain ⟨ro,rne⟩:=G.rt k kn;have rt:Lad.R t:=⟨D,t1,to⟩;have gnm:=hfit.named;have rh:=Gr.G_R (b:=b) G.toGoods go gnm;have Bg:0<=B0*(g.deep:Int):=Int.mul_nonneg (by omega) (by omega);have Pg:0<=P0*g.deep:=Nat.zero_le _;obtain ⟨a,u,rfl,hs,hga⟩:=z4r hz;obtain ⟨a',xs',rfl,hs',hb'⟩:=z0u hga;obtain ⟨ux,hux,hul⟩:=hw.val kn;refine ⟨_,rfl,a,_,rfl,hs,rfl,_,_,rfl,_,_,rfl,rfl,?_⟩;refine ⟨_,rfl,_,.inr (.inl ⟨xs',hs',rfl⟩),?_⟩;cases g with
 | nil =>
  cases hb';refine iteT ?_;rw [Gr.rkt_bare G.toGoods kn] at hlt;refine ⟨_,rfl,_,rfl,_,rfl,_,rfl,v,y,d,k,b,ρ,es,t,D,rfl,hv,hw,G,kn,⟨hy,to,t1,td,by omega⟩,fk.deep,hlt,fun p H1 kd' i r n s1 hp1 eg' er n0 nD hr=>?_⟩;refine ⟨p,_,rfl,hp1,rfl,_,_,rfl,_,_,rfl,rfl,?_⟩;refine ⟨by show 0<=sizeLine; decide,fun c0 hc0=>?_⟩;have s2:=SB.new (ps:=[]) hc0 (.tup []);refine ⟨_,rfl,_,rfl,by show 3<=sizeLine; decide,fun c3 hc3=>?_⟩;have s3:=SB.new (ps:=[]) hc3 (.tup [.ref c0,.int (i:Nat),.int n]);refine q c3 _ [] i r n (s1.trans (s2.trans s3)) ⟨c0,SqT.of Qt,s3.sqT (SqT.of Qt)⟩ (Gr.reach_bare G.toGoods kn eg' er n0 hr) (by show n<=D+B0*((0:Nat):Int); simp; omega)
 | cons gk gh gm gr =>
  have gne:Gr.cons gk gh gm gr ≠ .nil:=by simp
  obtain ⟨y0,yr,rfl⟩:∃ y0 yr,xs'=y0::yr:=by
   have:=hb'.length;cases xs' with
   | nil=>exact absurd this (by simp [Gr.ps])
   | cons a b=>exact ⟨a,b,rfl⟩
  refine iteF ?_;generalize Gr.cons gk gh gm gr=g at *;have ine:=Gr.rk_ne (b:=b) G.toGoods go gnm gne;obtain ⟨va,vdx,vd1,vd2,rfl,hva⟩:=hv.at;refine ⟨_,rfl,va,vdx,_,rfl,hva,rfl,_,rfl,?_⟩;refine ⟨_,b,k,rfl,hv,by omega,fun k' e' H1 s1=>?_,fun z=>by rw [eg] at z; cases z⟩;rw [eg] at e';cases e';have hwd:b.wide k=kd.w:=Bk.wide_get eg;refine ⟨_,rfl,?_⟩;cases hkw:kd.w with
  | false =>
   rw [hkw] at hwd;have hlt':t.lt (Lad.bhd (ρ k) (Gr.rk b ρ g))=true:=by
    have e:Gr.rkt b ρ (k,g)=lad (b.wide k) (ρ k) (Gr.rk b ρ g):=rfl;rw [e,hwd] at hlt;exact hlt
   refine iteT ?_;have rp:=Lad.ron_parts (ρ k) t;have rd:=Lad.ron_deep (ρ k) t;obtain ⟨ux1,hux1,hul1⟩:=(hw.sb0 s1).val kn;refine ⟨_,rfl,_,rfl,_,rfl,_,rfl,_,rfl,d,ux1,rfl,hux1,?_⟩;refine ⟨_,rfl,ux1,y,ρ k,t,rfl,hul1,hy.sb s1,fk.deep,td,fk.parts,by omega,fun x H2 s2 hx=>?_⟩;have s12:=s1.trans s2;refine nilI ?_;refine ⟨.ref va,.ref a',x,d,b,ρ,es,g,Lad.ron (ρ k) t,D,E0_,B0,P0,rfl,hv.sb0 s12,hw.sb0 s12,G,GA.sb hga s12,hgd,hfit,⟨fg,⟨gp,gdd⟩,go,gb⟩,⟨hx,Lad.ron_ok ro to t1,t1,b1,by omega,by omega,tx⟩,Lad.ron_lt ro rt rh ine hlt',fun p H3 pl i r n2 s3 hp hr hn2=>?_⟩;exact q p H3 pl i r n2 (s12.trans s3) hp (Gr.reach_held G.toGoods kn nk go gnm rt hr (Int.le_refl _) (fun _=>rfl) (fun z=>by rw [show b.wide (k,g).1=false from hwd] at z; cases z)) hn2
  | true =>
   rw [hkw] at hwd;refine iteF ?_;have hlt':t.lt (lad true (ρ k) (Gr.rk b ρ g))=true:=by
    have e:Gr.rkt b ρ (k,g)=lad (b.wide k) (ρ k) (Gr.rk b ρ g):=rfl;rw [e,hwd] at hlt;exact hlt
   refine zek rfl (hy.sb s1) fun ev H2 s2 hev=>?_;refine z02 ?_;have s12:=s1.trans s2;obtain ⟨ux2,hux2,hul2⟩:=(hw.sb0 s12).val kn;cases ho:ρ k with
   | nil=>exact absurd ho rne
   | cons e0 m0 r0 =>
   obtain ⟨au,xu,rfl,hsu,hbu⟩:=z05 hul2;rw [ho,show (Lad.cons e0 m0 r0).ps=(e0,m0)::r0.ps from rfl] at hbu;cases hbu with
   | @cons z0 zr _ _ i0 hbr =>
   obtain ⟨c,ue,rfl,hsc,hle⟩:=z0b i0;have ro':=ro;rw [ho] at ro' hlt';have e1:lad true (Lad.cons e0 m0 r0) (Gr.rk b ρ g)=.cons (Lad.bhd e0 (Gr.rk b ρ g)) 1 .nil:=Lad.spd_cons ine;rw [e1] at hlt';have re:=ro'.exp;have hx2:=Lad.hde_lt rt (re.bhd rh) (Lad.bhd_ne ine) hlt';have d1:e0.deep < (ρ k).deep:=by rw [ho]; exact Lad.mem_deep (.cons e0 m0 r0) (e0,m0) (mcs ..)
   have d2:e0.parts < (ρ k).parts:=by rw [ho]; exact Lad.mem_parts (.cons e0 m0 r0) (e0,m0) (mcs ..)
   have fkd:=fk.deep;have fkp:=fk.parts;have hd:=Lad.hde_deep t;have hp:=Lad.hde_parts t;have rp:=Lad.ron_parts e0 (Lad.hde t);have rd:=Lad.ron_deep e0 (Lad.hde t);refine ⟨_,rfl,_,rfl,_,rfl,_,rfl,_,rfl,d,_,rfl,hux2,au,_,_,_,rfl,rfl,hsu,atI_nat (j:=0) rfl,c,_,_,_,rfl,rfl,hsc,atI_nat (j:=0) rfl,?_⟩;refine ⟨_,rfl,ue,ev,e0,Lad.hde t,rfl,hle,hev,by omega,by omega,by omega,by omega,fun x H3 s3 hx=>?_⟩;have s13:=s12.trans s3;refine nilI ?_;refine ⟨.ref va,.ref a',x,d,b,ρ,es,g,Lad.ron e0 (Lad.hde t),D,E0_,B0,P0,rfl,hv.sb0 s13,hw.sb0 s13,G,GA.sb hga s13,hgd,hfit,⟨fg,⟨gp,gdd⟩,go,gb⟩,⟨hx,Lad.ron_ok re (Lad.hde_ok to) t1,t1,b1,by omega,by omega,tx⟩,Lad.ron_lt re rt.hde rh ine hx2,fun p H4 pl i r n2 s4 hp4 hr hn2=>?_⟩;obtain ⟨ap,hp5,hp6⟩:=hp4;refine ⟨p,_,rfl,hp5,rfl,_,_,rfl,_,_,rfl,_,_,rfl,rfl,?_⟩;refine ⟨_,rfl,_,rfl,_,rfl,_,rfl,y,t,rfl,hy.sb (s13.trans s4),by omega,_,_,rfl,?_⟩;refine ⟨by show 3<=sizeLine; decide,fun c3 hc3=>?_⟩;have fr:=Lad.frt_le to t1;have rn0:0<=n2:=hr.1;refine q c3 _ pl i r (if Lad.frt t > n2 then Lad.frt t else n2) ((s13.trans s4).trans (SB.new hc3 _)) ⟨ap,SqT.of Qt,(SB.new (ps:=[]) hc3 _).sqT hp6⟩ (Gr.reach_held G.toGoods kn nk go gnm rt hr (by split <;> omega) (fun z=>by rw [show b.wide (k,g).1=true from hwd] at z; cases z) fun _=>⟨by rw [show ρ (k,g).1=.cons e0 m0 r0 from ho]; rfl,by split <;> omega⟩) (by split <;> omega)
abbrev zhe:List Str:=["goal","many"]
theorem sc_q42:FnScope zhe ["goal"] (defScope z5q):=⟨rfl,rfl,rfl,by decide +kernel,rfl,by decide +kernel,by decide +kernel⟩
theorem zge (B:BI mg) (F:Fun K "further_needed" "further_needed" z5q f fd):FnOk P w K mg base CX0 (1) f fd ["goal"] (z7e K):=by
 refine F.ok sc_q42 (fun vs H Q E h=>?_) (fun cdv A outer s H vs Q E hr h=>?_)
 ·obtain ⟨v,l,rfl,_⟩:=h
  rfl
 obtain ⟨v,l,rfl,hv,hp,q⟩:=h;have hun2:=hunT hr;refine ⟨_,Qc (Qr (Qp (pt_truth (pv 0) (by intro _; rfl))) (Qe (Qj Qg)) pss_nil)
  (Qc (ps_set (i:=1) sc_q42.nd rfl (.inl rfl) (Qm Ql (Qm Ql (pv 0) Qg (fun _ _=>rfl)) Qg (fun _ _=>rfl)))
  (Qe (Qj (pe_ifExp (pt_cmpR op_gt (Qs call_len_seq rfl B.len PySem.boot_len (Qa (pv 0) Qb)) Qg (nomark _)) (pv 1) (pe_op op_sub (pv 1) Qg))))),?_⟩
 obtain ⟨a,xs,rfl,hs,hb⟩:=z05 hv;refine ⟨_,rfl,_,.inr (.inl ⟨xs,hs,rfl⟩),?_⟩;cases l with
 | nil =>
  cases hb;refine iteT ?_;exact q
 | cons e m r =>
  rw [show (Lad.cons e m r).ps=(e,m)::r.ps from rfl] at hb;cases hb with
  | @cons y0 yr _ _ h0 hbr =>
  refine iteF ?_;obtain ⟨c,ue,rfl,hsc,hle⟩:=z0b h0;have rl:=hbr.length;refine ⟨_,rfl,a,_,_,_,rfl,rfl,hs,atI_nat (j:=0) rfl,c,_,_,_,rfl,rfl,hsc,atI_nat (j:=1) rfl,?_⟩;refine z02 ?_;refine ⟨_,rfl,a,_,rfl,.inr hs,_,_,rfl,rfl,_,rfl,?_⟩;unfold Lad.frt at q;cases r with
  | nil =>
   cases hbr;rw [show decide ((1:Int) < (([V.ref c]:List V).length:Nat))=false from rfl];have q':Q (V.int (m-1)) H:=q;exact iteF ⟨_,rfl,_,_,rfl,rfl,q'⟩
  | cons e2 m2 r2 =>
   have rl':yr.length=r2.ps.length+1:=rl;rw [show decide ((1:Int) < ((V.ref c::yr).length:Nat))=true from Ya (by rw [Yk]; omega)];have q':Q (V.int m) H:=q;exact iteT ⟨_,rfl,q'⟩
abbrev zcv:List Str:=["book","owns","kind","goal","rows","at","once","each","rule"]
theorem sc_q40:FnScope zcv ["book","owns","kind","goal"] (defScope z3w):=⟨rfl,rfl,rfl,by decide +kernel,rfl,by decide +kernel,by decide +kernel⟩
theorem zg9 {C_Book C_NoKind:Addr} (B:BI mg) (G_q71:GotX P w K mg base "rules_from_nought" ["book","name"] (5) (z53 K C_Book C_NoKind)) (G_q35:Got P w K mg base "climb" ["book","worths","rule"] (46) (z2p K C_Book)) (G_q46:Got P w K mg base "is_less" ["one","other"] (1) (z1g K)) (G_q67:Got P w K mg base "reckoned" ["book","worths","grove"] (45) (z1f K C_Book 20)) (G_q61:Got P w K mg base "many_at" ["pairs","thing"] (1) (z52 K)) (F:Fun K "fall_of_bare" "fall_of_bare" z3w f fd):FnOk P w K mg base (L2.CX P w) (50) f fd ["book","owns","kind","goal"] (z9h K C_Book):=by
 refine F.okX sc_q40 (fun vs H Q E h=>?_) (fun cdv A outer s H vs Q E hr h=>?_)
 ·obtain ⟨v,y,d,k,b,ρ,es,t,D,rfl,_⟩:=h
  rfl
 obtain ⟨v,y,d,k,b,ρ,es,t,D,rfl,hv,hw,G,hk,⟨hy,to,t1,td,tp⟩,kd,hlt,q⟩:=h;have hun2:=hunT hr;refine ⟨_,Qc (ps_set (i:=4) sc_q40.nd rfl (.inl rfl) (z0k G_q71 (hr.mono (by omega)) rfl (takes_of rfl rfl rfl rfl) (Qa (pv 0) (Qa (pv 2) Qb))))
  (Qc (ps_set (i:=5) sc_q40.nd rfl (.inl rfl) (pe_bm PySem.F.plainAttrs_list PySem.F.slot_list_index PySem.F.type_list_index (z7i (by show A.units+3+196 < cLine; omega)) (pe_lc (own:=[("rule",8)]) (g:=(gName 8)) (tt:=tYes) (te:=(tCall (z2p K C_Book) [] E0 (tCons (tVar 0) (tCons (tVar 1) (tCons (tVar 8) tNil))))) rfl sc_q40.nd (pi_list (pv 4)) (blkOk_by (N:=zcv) (sc:=defScope z3w) (by decide +kernel)) (fun _ _ _ _ _=>(pg_name (i:=8) sc_q40.nd rfl (.inl rfl))) (fun _ _ _ _ _=>pts_nil) (fun _ _ _ _ _=>(z00 G_q35 (hr.mono (by omega)) rfl (Qa (pv 0) (Qa (pv 1) (Qa (pv 8) Qb)))))) (Qa (pe_dget (by show A.units+3+1 < cLine; omega) (pv 1) (pv 2) (fun _ _=>rfl)) Qb)))
  (Qc (ps_asg (Qm ix_list (pv 4) (pv 5) (fun _ _=>rfl)) (pg_tup rfl (Qi (pg_name (i:=6) sc_q40.nd rfl (.inl rfl)) (Qi (pg_name (i:=7) sc_q40.nd rfl (.inl rfl)) pgs_nil))))
  (Qc (Qr (Qp (Qo (z00 G_q46 (hr.mono (by omega)) rfl (Qa (z00 G_q67 (hr.mono (by omega)) rfl (Qa (pv 0) (Qa (pv 1) (Qa (pv 6) Qb)))) (Qa (pv 3) Qb))))) (Qe (Qj (pe_tup (Qa (pv 5) (Qa Qg Qb))))) pss_nil)
  (Qe (Qj (pe_tup (Qa (pv 5) (Qa (pe_op op_add Qg (z00 G_q61 (hr.mono (by omega)) rfl (Qa (pv 3) (Qa (Qm Ql (Qm Ql (z00 G_q67 (hr.mono (by omega)) rfl (Qa (pv 0) (Qa (pv 1) (Qa (pv 7) Qb)))) Qg (fun _ _=>rfl)) Qg (fun _ _=>rfl)) Qb)))) Qb)))))))),?_⟩
 have szl:=sizeLine_eq;have b8:=G.ok.len;obtain ⟨kd',eg⟩:=Bk.get_of (G.sub k hk);obtain ⟨km,rfl⟩:=Bk.get_some eg;obtain ⟨kn,r4,rr⟩:=G.ok.kd kd' km;refine ⟨_,rfl,_,rfl,v,b,kd'.n,rfl,hv,by omega,fun k hk=>Yb (G.ok.kd k hk).2.1 (by decide),fun k' e' ll us H4 s4 nll hll hbl=>?_,fun z=>by rw [eg] at z; cases z⟩;rw [eg] at e';cases e';have ul:=hbl.length;refine z02 ?_;have hR4:=hw.sb0 s4;refine ⟨_,rfl,ll,rfl,⟨_,SqL.of hll⟩,fun D2 nD2=>?_⟩;refine z90 (walk_list (xs:=us)) [] nD2 (by simp) (by rw [ul,Yk]; omega) (fun j ws H5=>Bears K H5 Lad.enc ws (((noR::kd'.rs).take j).map (clm b ρ))) .nil (fun H5 s5=>s5.sqL nmn (SqL.of hll)) (fun j ws H5 H6 s6 h=>h.sb s6 Lad.noList_enc) (fun Pv j x Hq H5 ws hj s5 y hR5 hu5 _ fin skip=>?_) (fun ws H5 s5 hD5 hR5 hu5=>?_)
 ·obtain ⟨rfl,ey⟩:=y;obtain ⟨r,er,hrd⟩:=hbl.get ey;have rm:=Qu er;have rf:RFit b ρ es r:=by
   rcases Qv rm with rfl | rm
   ·exact z6t b ρ _
   ·exact (G.ru _ hk kd' eg r rm).1
  have rp:r.1.parts+r.2.parts<=4:=by
   rcases Qv rm with rfl | rm
   ·decide
   ·exact (rr r rm).1.2.2
  have rd1:=z07 r.1;have rd2:=z07 r.2;refine ⟨rfl,_,rfl,_,rfl,_,rfl,v,x,d,b,ρ,es,r,rfl,(hv.sb0 s4).sb0 s5,by omega,hR4.sb0 s5,z0a s5 _ _ (Ru.noList_enc _) hrd,by omega,by omega,by omega,by omega,rf,fun z H6 s6 hz=>fin z H6 s6 ?_⟩;rw [Yg,er,Yj];exact (hR5.sb s6 Lad.noList_enc).append (.cons hz .nil)
 ·rw [ul,Yh] at hR5;have hmem:ρ kd'.n ∈ (noR::kd'.rs).map (clm b ρ):=by
   rw [G.own _ hk kd' eg,List.map_cons,show clm b ρ noR=Lad.uno from z3e b ρ];exact Lad.maxL_mem _ _
  obtain ⟨j,hj,hbef⟩:=z3d hmem;have hjr:=hj;rw [List.getElem?_map] at hjr;obtain ⟨r,er,ecl⟩:=Option.map_eq_some_iff.mp hjr;have rm:=Qu er;obtain ⟨ux,hux,hul⟩:=hw.val hk;have hR6:=hR4.sb0 s5;have s05:=s4.trans s5;obtain ⟨ux,hux,hul⟩:=hR6.val hk;have dps:=z22 hR5;have ged:∀ i:Nat,(((noR::kd'.rs).map (clm b ρ)).map Lad.enc)[i]?=(((noR::kd'.rs).map (clm b ρ))[i]?).map Lad.enc:=fun i=>List.getElem?_map ..;refine ⟨.inl ⟨rfl,_,SqL.of hD5⟩,_,rfl,_,rfl,d,ux,rfl,hux,D2,ux,(ρ kd'.n).enc,_,j,(ρ kd'.n).enc,rfl,rfl,.lst (SqL.of hD5) dps,hul,?_,Wd.of (Lad.shaped_enc (by omega)),by rw [ged,hj]; rfl,by rw [Lad.eqv_enc]; exact Ya rfl,fun m z' hm hz=>?_,?_⟩
  ·refine Lad.lay_lads _ fun l hl=>?_;obtain ⟨r',rm',rfl⟩:=Qx hl;rcases Qv rm' with z | z
   ·rw [z,show clm b ρ noR=Lad.uno from z3e b ρ]; decide
   ·exact (G.ru _ hk kd' eg r' z).2
  ·rw [ged] at hz;obtain ⟨l',el',rfl⟩:=Option.map_eq_some_iff.mp hz;rw [Lad.eqv_enc];exact Qz fun z=>hbef m hm (by rw [el',z])
  refine z02 ?_;have jl:j < us.length:=by
   rw [ul];exact (List.getElem?_eq_some_iff.mp er).1
  obtain ⟨xj,exj⟩:∃ xj,us[j]?=some xj:=⟨_,List.getElem?_eq_getElem jl⟩;obtain ⟨r',er',hrd⟩:=hbl.get exj;rw [er] at er';cases er';cases hrd with
  | @tup ad us' _ hs' hda =>
  cases hda with
  | cons g1 hda =>
  cases hda with
  | cons g2 hda =>
  cases hda;refine ⟨_,rfl,_,rfl,ll,us,(j:Int),_,rfl,rfl,s5.sqL nmn (SqL.of hll),atI_nat exj,ad,_,rfl,s5.sqT hs',rfl,_,_,rfl,_,_,rfl,rfl,?_⟩;obtain ⟨k1,k2,k3⟩:=Gr.ru_facts G.toGoods hk eg rm;have rl:=Gr.G_R G.toGoods k1.1 k2;have rk2:=Gr.G_R G.toGoods k1.2.1 k3;have rt:Lad.R t:=⟨D,t1,to⟩;have rf:RFit b ρ es r:=by
   rcases Qv rm with z | z
   ·rw [z]; exact z6t b ρ _
   ·exact (G.ru _ hk kd' eg r z).1
  have rp:=k1.2.2;have rd1:=z07 r.1;have rd2:=z07 r.2;have hlt':t.lt (Lad.abv (Gr.rk b ρ r.1) (Gr.rk b ρ r.2))=true:=by
   show t.lt (clm b ρ r)=true;rw [ecl]; exact hlt
  refine ⟨_,rfl,_,rfl,_,rfl,v,_,d,b,ρ,es,r.1,rfl,hv.sb0 s05,by omega,hR6,GA.sb g1 s5,by omega,rf.1.w,by omega,fun x1 H6 s6 hx1=>?_⟩;refine ⟨_,rfl,x1,y,_,t,rfl,hx1,hy.sb (s05.trans s6),Yb rf.2.2.1 (by decide),_,rfl,?_⟩;cases hc:(Gr.rk b ρ r.1).lt t with
  | false =>
   refine iteT ?_;refine ⟨_,rfl,by show 2<=sizeLine; decide,fun c hc2=>?_⟩;exact q c _ kd' j r 0 ((s05.trans s6).trans (SB.new hc2 _)) (SqT.of Qt) eg er (by decide) (by omega) fun n' hn'=>Lad.bare_reach rl rk2 rt hlt' (by omega) fun z=>by rw [hc] at z; cases z
  | true =>
   refine iteF ?_;have ene:=Lad.each_ne rl rt hlt' hc;refine ⟨_,rfl,_,rfl,_,rfl,_,rfl,_,rfl,v,_,d,b,ρ,es,r.2,rfl,hv.sb0 (s05.trans s6),by omega,hR6.sb0 s6,GA.sb g2 (s5.trans s6),by omega,rf.2.1.w,by omega,fun x2 H7 s7 hx2=>?_⟩;obtain ⟨a2,xs2,rfl,hsa,hba⟩:=z05 hx2;cases hk2:Gr.rk b ρ r.2 with
   | nil=>exact absurd hk2 ene
   | cons e m rr2 =>
   rw [hk2,show (Lad.cons e m rr2).ps=(e,m)::rr2.ps from rfl] at hba;cases hba with
   | @cons y0 yr _ _ h0 hbr =>
   obtain ⟨c,ue,rfl,hsc,hle⟩:=z0b h0;have s07:=(s05.trans s6).trans s7;have ed:e.deep < (Lad.cons e m rr2).deep:=Lad.mem_deep (.cons e m rr2) (e,m) (mcs ..);have rfd:=rf.2.2.2.1;rw [hk2] at rfd;refine ⟨_,_,_,_,rfl,rfl,hsa,atI_nat (j:=0) rfl,c,_,_,_,rfl,rfl,hsc,atI_nat (j:=0) rfl,y,ue,t,e,rfl,hy.sb s07,hle,by omega,by omega,by omega,fun H8 s8=>?_⟩;refine ⟨_,_,rfl,rfl,by show 2<=sizeLine; decide,fun c9 hc9=>?_⟩;have sS:=Lad.S_small to t1 e;refine q c9 _ kd' j r (1+Lad.S t e) ((s07.trans s8).trans (SB.new hc9 _)) (SqT.of Qt) eg er (by omega) (by omega) fun n' hn'=>Lad.bare_reach rl rk2 rt hlt' (by omega) fun _=>⟨e,m,rr2,hk2,hn'⟩
abbrev zh7:List Str:=["_law_script"]
theorem zg1:FnScope zh7 ["_law_script"] (defScope z65):=⟨rfl,rfl,rfl,by decide +kernel,rfl,by decide +kernel,by decide +kernel⟩
theorem zfg (B:BI mg) (F:Fun K "_law_pot" "_law_pot" z65 f fd):FnOk P w K mg base CX0 (1) f fd ["_law_script"] (zcg K):=by
 refine F.ok zg1 (fun vs H Q E h=>?_) (fun cdv A outer s H vs Q E hr h=>?_)
 ·obtain ⟨a,ns,rfl,_⟩:=h
  rfl
 obtain ⟨a,ns,rfl,hs,nl,q⟩:=h;have hun2:=hunT hr;refine ⟨_,Qe (Qj (pe_disp (pps_cons pe_str (pe_callTy call_list_of rfl B.list boot_list (Qa (pv 0) Qb)) (pps_cons pe_str Qg (pps_cons pe_str Qg (pps_cons pe_str (pe_op op_add Qg (Qs call_len_seq rfl B.len PySem.boot_len (Qa (pv 0) Qb))) pps_nil)))) (by rfl) (by rfl) (fun z=>by cases z) (by decide))),?_⟩;have szl:=sizeLine_eq;refine fun p np=>?_;have t0:=SB.new (ps:=[]) np (.dK []);have hp0:upd H p (.dK []) p=some (.dK []):=Qt;generalize upd H p (.dK [])=H0 at t0 hp0;refine ⟨_,rfl,a,_,rfl,.inl (t0.sqL nmn hs),fun c nc=>?_⟩;have t1:=SB.new (ps:=[]) nc (.lst (ns.map V.int));have hc1:upd H0 c (.lst (ns.map V.int)) c=some (.lst (ns.map V.int)):=Qt;have hp1:=t1.keep _ _ hp0 nmn;have cp:c ≠ p:=fun z=>by rw [z,hp0] at nc; cases nc
 have s01:=t0.trans t1;generalize upd H0 c (.lst (ns.map V.int))=H1 at t1 hc1 hp1 s01;refine ⟨_,rfl,a,_,rfl,.inl (s01.sqL nmn hs),_,_,rfl,rfl,?_⟩;rw [Ye];refine ⟨hp1,[(Sum.inr "cells",.ref c),(Sum.inr "at",.int 0),(Sum.inr "left",.int 0),(Sum.inr "seed",.int (20011+(ns.length:Nat)))],rfl,by show 4<=15; decide,?_⟩;have t2:=SB.setD (ps:=[p]) hp1 (by simp) (.dK (potK c 0 0 (20011+(ns.length:Nat))));refine q p _ ((s01.nil.trans t2).drop np) np ⟨c,ns,0,0,20011+(ns.length:Nat),Qt,t2.keep _ _ hc1 (by simpa using cp),nl,by omega,by omega,⟨by omega,by decide⟩,by omega,?_⟩;have:(2:Int) ^ 31=2147483648:=by decide
 omega
abbrev zjv:List Str:=["_law_pot_here","_law_many","_law_cell","_law_digit","_law_seed"]
theorem sc_q23:FnScope zjv ["_law_pot_here","_law_many"] (defScope z5l):=⟨rfl,rfl,rfl,by decide +kernel,rfl,by decide +kernel,by decide +kernel⟩
theorem zet (B:BI mg) (F:Fun K "_law_take" "_law_take" z5l f fd):FnOk P w K mg base CX0 (1) f fd ["_law_pot_here","_law_many"] (z19):=by
 refine F.ok sc_q23 (fun vs H Q E h=>?_) (fun cdv A outer s H vs Q E hr h=>?_)
 ·obtain ⟨p,c,m,rfl,_⟩:=h
  rfl
 obtain ⟨p,c,m,rfl,hp,m1,m2,q⟩:=h;have hun2:=hunT hr;refine ⟨_,Qc (Qr (PW.pt (pw_and (pt_cmpR op_eq (pe_dget (by show A.units+3+1 < cLine; omega) (pv 0) pe_str (fun _ _=>rfl)) Qg (nomark _)) (pw_and1 (pt_cmpR op_lt (pe_dget (by show A.units+3+1 < cLine; omega) (pv 0) pe_str (fun _ _=>rfl)) (Qs call_len_seq rfl B.len PySem.boot_len (Qa (pe_dget (by show A.units+3+1 < cLine; omega) (pv 0) pe_str (fun _ _=>rfl)) Qb)) (nomark _))))) (Qc (ps_set (i:=2) sc_q23.nd rfl (.inl rfl) (Qm ix_list (pe_dget (by show A.units+3+1 < cLine; omega) (pv 0) pe_str (fun _ _=>rfl)) (pe_dget (by show A.units+3+1 < cLine; omega) (pv 0) pe_str (fun _ _=>rfl)) (fun _ _=>rfl)))
  (Qc (ps_daug (by show A.units+3+1 < cLine; omega) (pv 0) pe_str Qg in_add (fun _ _ _=>rfl))
  (Qe (Qr (PW.pt (pw_or (pt_cmpR op_ge (pv 2) (pe_op op_pow Qg Qg) (nomark _)) (pw_or1 (pt_cmpR op_lt (pv 2) Qg (nomark _))))) (Qe (ps_dput (by show A.units+3+1 < cLine; omega) (pv 0) pe_str (pe_op op_mod (Qs call_abs rfl B.abs boot_abs (Qa (pv 2) Qb)) (pe_op op_mulW (pe_op op_mulW (pe_op op_mulW (pe_op op_mulW (pe_op op_pow Qg Qg) (pe_op op_pow Qg Qg)) (pe_op op_pow Qg Qg)) (pe_op op_pow Qg Qg)) (pe_op op_pow Qg Qg))) rfl)) (Qe (ps_dput (by show A.units+3+1 < cLine; omega) (pv 0) pe_str (pe_op op_mod (pe_op op_add (pe_op op_mul (pe_dget (by show A.units+3+1 < cLine; omega) (pv 0) pe_str (fun _ _=>rfl)) Qg) (pe_op op_mod (pv 2) Qg)) Qg) rfl)))))) pss_nil)
  (Qc (Qr (pt_cmpR op_gt (pe_dget (by show A.units+3+1 < cLine; omega) (pv 0) pe_str (fun _ _=>rfl)) Qg (nomark _)) (Qc (ps_set (i:=3) sc_q23.nd rfl (.inl rfl) (pe_op op_mod (pe_dget (by show A.units+3+1 < cLine; omega) (pv 0) pe_str (fun _ _=>rfl)) (pv 1)))
  (Qc (ps_dput (by show A.units+3+1 < cLine; omega) (pv 0) pe_str (pe_op op_fdivW (pe_dget (by show A.units+3+1 < cLine; omega) (pv 0) pe_str (fun _ _=>rfl)) (pv 1)) rfl)
  (Qe (Qj (pv 3))))) pss_nil)
  (Qc (ps_set (i:=4) sc_q23.nd rfl (.inl rfl) (pe_op op_mod (pe_op op_add (pe_op op_mul (pe_dget (by show A.units+3+1 < cLine; omega) (pv 0) pe_str (fun _ _=>rfl)) Qg) Qg) Qg))
  (Qc (ps_dput (by show A.units+3+1 < cLine; omega) (pv 0) pe_str (pv 4) rfl)
  (Qe (Qj (pe_op op_mod (pe_op op_add (pe_op op_mul (pe_op op_mod (pe_op op_mul (pv 4) (pv 4)) Qg) Qg) (pe_op op_fdivW (pv 4) Qg)) (pv 1))))))),?_⟩
 have szl:=sizeLine_eq;obtain ⟨ns,a,l,s,hp0,hc,nl,a0,a1,⟨l0,l1⟩,⟨s0,s1⟩⟩:=hp;refine z15 (fun σ' G=>∃ (a l s:Int) (o2:Option V),σ'=[some (.ref p),some (.int m),o2,none,none]/\SB [p] H G/\G p=some (.dK (potK c a l s))/\G c=some (.lst (ns.map V.int))/\0<=a/\a<=ns.length/\(0<=l/\l < 10 ^ 320)/\(0<=s/\s < 2 ^ 31)) (fun nx hnx=>?_) (fun σ' G h=>?_)
 ·have cp:c ≠ p:=fun z=>by rw [z,hp0] at hc; cases hc
  have stay:SB [p] H H:=SB.refl;have e31:(2:Int) ^ 31=2147483648:=by decide
  refine ⟨_,rfl,p,_,rfl,getK hp0 (z2x _ _ _ _),rfl,_,rfl,?_⟩;by_cases h0:l=0
  ·rw [show decide (V.int l=V.int 0)=true from Ya (by rw [h0])];refine iteT ?_;refine ⟨_,rfl,p,_,rfl,getK hp0 (z8f _ _ _ _),_,rfl,p,_,rfl,getK hp0 (z79 _ _ _ _),c,_,rfl,.inl (SqL.of hc),_,_,rfl,rfl,_,rfl,?_⟩;rw [Ye];by_cases h1:a < ns.length
   ·rw [Ya h1];refine iteT ?_;obtain ⟨j,rfl⟩:∃ j:Nat,a=(j:Int):=⟨a.toNat,by omega⟩;have ej:ns[j]?=some ns[j]:=List.getElem?_eq_getElem (by omega);generalize ns[j]=x at ej;refine ⟨_,rfl,p,_,rfl,getK hp0 (z79 _ _ _ _),_,rfl,p,_,rfl,getK hp0 (z8f _ _ _ _),c,_,_,_,rfl,rfl,SqL.of hc,atI_nat (j:=j) (by rw [List.getElem?_map,ej]; rfl),?_⟩;refine z02 ?_;refine ⟨_,rfl,p,_,rfl,getK hp0 (z8f _ _ _ _),_,_,rfl,rfl,_,DPut.k (k:=Sum.inr "at") hp0 (by show 4 < sizeLine; decide),?_⟩;have t1:=SB.setD (ps:=[p]) hp0 (by simp) (.dK (potK c ((j:Int)+1) l s));have hp1:upd H p (.dK (potK c ((j:Int)+1) l s)) p=some (.dK (potK c ((j:Int)+1) l s)):=Qt;have hc1:=t1.keep _ _ hc (by simpa using cp);rw [zg3];generalize upd H p (.dK (potK c ((j:Int)+1) l s))=H1 at t1 hp1 hc1;refine ⟨_,rfl,10,18,rfl,rfl,⟨by decide,by decide⟩,_,_,rfl,rfl,_,rfl,?_⟩;by_cases g1:(10:Int) ^ (18:Int).toNat<=x
    ·rw [Ya g1];refine iteT ?_;refine ⟨_,rfl,x,rfl,10,64,rfl,rfl,⟨by decide,by decide⟩,10,64,rfl,rfl,⟨by decide,by decide⟩,_,_,rfl,rfl,by unfold CMulW; decide +kernel,10,64,rfl,rfl,⟨by decide,by decide⟩,_,_,rfl,rfl,by unfold CMulW; decide +kernel,10,64,rfl,rfl,⟨by decide,by decide⟩,_,_,rfl,rfl,by unfold CMulW; decide +kernel,10,64,rfl,rfl,⟨by decide,by decide⟩,_,_,rfl,rfl,by unfold CMulW; decide +kernel,_,_,rfl,rfl,(by show (0:Int) < 10 ^ Int.toNat 64*10 ^ Int.toNat 64*10 ^ Int.toNat 64*10 ^ Int.toNat 64*10 ^ Int.toNat 64; decide +kernel),?_⟩;refine ⟨_,rfl,p,_,rfl,DPut.k (k:=Sum.inr "left") hp1 (by show 4 < sizeLine; decide),?_⟩;have t2:=SB.setD (ps:=[p]) hp1 (by simp) (.dK (potK c ((j:Int)+1) ((if x < 0 then -x else x) % (10 ^ 320)) s));refine hnx _ _ ⟨(j:Int)+1,(if x < 0 then -x else x) % (10 ^ 320),s,_,rfl,t1.trans t2,Qt,t2.keep _ _ hc1 (by simpa using cp),by omega,by omega,⟨Int.emod_nonneg _ (by decide),Int.emod_lt_of_pos _ (by decide)⟩,⟨s0,s1⟩⟩
    rw [Qz g1];refine iteF ⟨_,rfl,_,_,rfl,rfl,_,rfl,?_⟩;by_cases g2:x < 0
    ·rw [Ya g2];refine iteT ?_;refine ⟨_,rfl,x,rfl,10,64,rfl,rfl,⟨by decide,by decide⟩,10,64,rfl,rfl,⟨by decide,by decide⟩,_,_,rfl,rfl,by unfold CMulW; decide +kernel,10,64,rfl,rfl,⟨by decide,by decide⟩,_,_,rfl,rfl,by unfold CMulW; decide +kernel,10,64,rfl,rfl,⟨by decide,by decide⟩,_,_,rfl,rfl,by unfold CMulW; decide +kernel,10,64,rfl,rfl,⟨by decide,by decide⟩,_,_,rfl,rfl,by unfold CMulW; decide +kernel,_,_,rfl,rfl,(by show (0:Int) < 10 ^ Int.toNat 64*10 ^ Int.toNat 64*10 ^ Int.toNat 64*10 ^ Int.toNat 64*10 ^ Int.toNat 64; decide +kernel),?_⟩;refine ⟨_,rfl,p,_,rfl,DPut.k (k:=Sum.inr "left") hp1 (by show 4 < sizeLine; decide),?_⟩;have t2:=SB.setD (ps:=[p]) hp1 (by simp) (.dK (potK c ((j:Int)+1) ((if x < 0 then -x else x) % (10 ^ 320)) s));refine hnx _ _ ⟨(j:Int)+1,(if x < 0 then -x else x) % (10 ^ 320),s,_,rfl,t1.trans t2,Qt,t2.keep _ _ hc1 (by simpa using cp),by omega,by omega,⟨Int.emod_nonneg _ (by decide),Int.emod_lt_of_pos _ (by decide)⟩,⟨s0,s1⟩⟩
    rw [Qz g2];refine iteF ?_;refine ⟨_,rfl,p,_,rfl,getK hp1 (z8o _ _ _ _),_,_,rfl,rfl,.inr ⟨by decide,by decide⟩,_,rfl,_,_,rfl,rfl,(by show (0:Int) < 2147483629; decide),_,_,rfl,rfl,_,_,rfl,rfl,(by show (0:Int) < 2147483647; decide),?_⟩;refine ⟨_,rfl,p,_,rfl,DPut.k (k:=Sum.inr "seed") hp1 (by show 4 < sizeLine; decide),?_⟩;have t2:=SB.setD (ps:=[p]) hp1 (by simp) (.dK (potK c ((j:Int)+1) l ((s*48271+x % 2147483629) % 2147483647)));have b1:=Int.emod_nonneg (s*48271+x % 2147483629) (show (2147483647:Int) ≠ 0 by decide);have b2:=Int.emod_lt_of_pos (s*48271+x % 2147483629) (show (0:Int) < 2147483647 by decide);exact hnx _ _ ⟨(j:Int)+1,l,(s*48271+x % 2147483629) % 2147483647,_,rfl,t1.trans t2,Qt,t2.keep _ _ hc1 (by simpa using cp),by omega,by omega,⟨l0,l1⟩,by omega,by omega⟩
   ·rw [Qz h1];exact iteF (hnx _ _ ⟨a,l,s,_,rfl,stay,hp0,hc,a0,a1,⟨l0,l1⟩,⟨s0,s1⟩⟩)
  ·rw [show decide (V.int l=V.int 0)=false from Qz (fun z=>h0 (by injection z))];exact iteF (hnx _ _ ⟨a,l,s,_,rfl,stay,hp0,hc,a0,a1,⟨l0,l1⟩,⟨s0,s1⟩⟩)
 ·obtain ⟨a,l,s,o2,rfl,s2,hp2,hc2,a0,a1,⟨l0,l1⟩,⟨s0,s1⟩⟩:=h;have cp:c ≠ p:=fun z=>by rw [z,hp2] at hc2; cases hc2
  refine z15 (fun σ' G2=>σ'=[some (.ref p),some (.int m),o2,none,none]/\G2=G/\l=0) (fun nx hnx=>?_) (fun σ' G2 h=>?_)
  ·refine ⟨_,rfl,p,_,rfl,getK hp2 (z2x _ _ _ _),_,_,rfl,rfl,_,rfl,?_⟩;by_cases h0:0 < l
   ·rw [Ya h0];refine iteT ?_;refine ⟨_,rfl,p,_,rfl,getK hp2 (z2x _ _ _ _),_,rfl,_,_,rfl,rfl,(show (0:Int) < m by omega),?_⟩;refine z02 ?_;refine ⟨_,rfl,p,_,rfl,getK hp2 (z2x _ _ _ _),_,rfl,_,_,rfl,rfl,⟨by omega,Nat.lt_of_lt_of_le ((Nat.log2_lt (show m.natAbs ≠ 0 by omega)).mpr (show m.natAbs < 2 ^ 2000 by omega)) (by decide)⟩,?_⟩;refine ⟨_,rfl,p,_,rfl,DPut.k (k:=Sum.inr "left") hp2 (by show 4 < sizeLine; decide),?_⟩;have t2:=SB.setD (ps:=[p]) hp2 (by simp) (.dK (potK c a (l / m) s));refine ⟨_,rfl,q _ _ (Int.emod_nonneg _ (by omega)) (Int.emod_lt_of_pos _ (by omega)) (s2.trans t2) ⟨ns,a,l / m,s,Qt,t2.keep _ _ hc2 (by simpa using cp),nl,a0,a1,⟨Int.ediv_nonneg l0 (by omega),Int.lt_of_le_of_lt (Int.ediv_le_self m l0) l1⟩,⟨s0,s1⟩⟩⟩
   ·rw [Qz h0];exact iteF (hnx _ _ ⟨rfl,rfl,by omega⟩)
  ·obtain ⟨rfl,rfl,rfl⟩:=h;have e31:(2:Int) ^ 31=2147483648:=by decide
   refine ⟨_,rfl,p,_,rfl,getK hp2 (z8o _ _ _ _),_,_,rfl,rfl,.inr ⟨by decide,by decide⟩,_,_,rfl,rfl,_,_,rfl,rfl,(by show (0:Int) < 2147483629; decide),?_⟩;have b1:=Int.emod_nonneg (s*69621+16807) (show (2147483629:Int) ≠ 0 by decide);have b2:=Int.emod_lt_of_pos (s*69621+16807) (show (0:Int) < 2147483629 by decide);refine z02 ?_;refine ⟨_,rfl,_,rfl,p,_,rfl,DPut.k (k:=Sum.inr "seed") hp2 (by show 4 < sizeLine; decide),?_⟩;have t2:=SB.setD (ps:=[p]) hp2 (by simp) (.dK (potK c a 0 ((s*69621+16807) % 2147483629)));have m1:CMul ((s*69621+16807) % 2147483629) ((s*69621+16807) % 2147483629):=.inl ⟨Int.lt_of_lt_of_le (by decide) b1,Int.lt_trans b2 (by decide)⟩;refine ⟨_,rfl,_,rfl,_,_,rfl,rfl,m1,_,_,rfl,rfl,(by show (0:Int) < 2147483587; decide),_,_,rfl,rfl,.inr ⟨by decide,by decide⟩,_,rfl,_,_,rfl,rfl,⟨by decide,by decide⟩,_,_,rfl,rfl,_,rfl,_,_,rfl,rfl,(show (0:Int) < m by omega),?_⟩;exact q _ _ (Int.emod_nonneg _ (by omega)) (Int.emod_lt_of_pos _ (by omega)) (s2.trans t2) ⟨ns,a,0,((s*69621+16807) % 2147483629),Qt,t2.keep _ _ hc2 (by simpa using cp),nl,a0,a1,⟨by omega,by decide⟩,⟨b1,by omega⟩⟩
abbrev zjk:List Str:=["_law_one","_law_other","_law_pair","_law_more"]
theorem sc_q15:FnScope zjk ["_law_one","_law_other"] (defScope z6j):=⟨rfl,rfl,rfl,by decide +kernel,rfl,by decide +kernel,by decide +kernel⟩
theorem z5n {ps:List Str} {k:Nat}:FnOk P w K mg base CX0 k f fd ps (z0z K 0):=z0v fun vs H Q E ⟨v,u,l,k,_,_,_,h,_⟩=>by omega
theorem ze9 {n:Nat} (B:BI mg) (G_q15:Got P w K mg base "_law_less" ["_law_one","_law_other"] (n) (z0z K n)) (F:Fun K "_law_less" "_law_less" z6j f fd):FnOk P w K mg base CX0 (n+1) f fd ["_law_one","_law_other"] (z0z K (n+1)):=by
 refine F.ok sc_q15 (fun vs H Q E h=>?_) (fun cdv A outer s H vs Q E hr h=>?_)
 ·obtain ⟨v,u,l,o,rfl,_⟩:=h
  rfl
 obtain ⟨v,u,l,o,rfl,hv,hu,hdn,hd,hd2,q⟩:=h;have hun2:=hunT hr;refine ⟨_,Qc (ps_for PassesOwn.never rfl (RZ.pi_zipA rfl B.zip (Qa (pv 0) (Qa (pv 1) Qb))) (pg_tup rfl (Qi (pg_name (i:=2) sc_q15.nd rfl (.inl rfl)) (Qi (pg_name (i:=3) sc_q15.nd rfl (.inl rfl)) pgs_nil)))
   (Qe (Qr (pt_cmpR (op_neD (by show A.units+3+64 < cLine; omega)) (pv 2) (pv 3) (nomark _)) (Qc (Qr (pt_cmpR (op_neD (by show A.units+3+64 < cLine; omega)) (Qm Ql (pv 2) Qg (fun _ _=>rfl)) (Qm Ql (pv 3) Qg (fun _ _=>rfl)) (nomark _)) (Qe (Qj (z00 G_q15 (hr.mono (by omega)) rfl (Qa (Qm Ql (pv 2) Qg (fun _ _=>rfl)) (Qa (Qm Ql (pv 3) Qg (fun _ _=>rfl)) Qb))))) pss_nil)
  (Qe (Qj (pe_cmpR op_lt (Qm Ql (pv 2) Qg (fun _ _=>rfl)) (Qm Ql (pv 3) Qg (fun _ _=>rfl)) (nomark _))))) pss_nil)))
  (Qe (Qj (pe_cmpR op_lt (Qs call_len_seq rfl B.len PySem.boot_len (Qa (pv 0) Qb)) (Qs call_len_seq rfl B.len PySem.boot_len (Qa (pv 1) Qb)) (nomark _)))),?_⟩
 have szl:=sizeLine_eq;obtain ⟨a,xs,rfl,hsa,hba⟩:=z05 hv;obtain ⟨b,ys,rfl,hsb,hbb⟩:=z05 hu;have xl:=hba.length;have yl:=hbb.length;refine ⟨_,rfl,_,rfl,a,b,xs,ys,rfl,.inr ⟨hsa,hsb,?_⟩⟩;refine for_it (zaf (xs:=xs) (ys:=ys) (n:=min xs.length ys.length) rfl) (fun i σ H2=>SB [] H H2/\(∃ o2 o3:Option V,σ=[some (.ref a),some (.ref b),o2,o3])/\i<=l.ps.length/\i<=o.ps.length/\l.lt o=(Lad.ofPs (l.ps.drop i)).lt (Lad.ofPs (o.ps.drop i))) ⟨SB.refl,⟨none,none,rfl⟩,Nat.zero_le _,Nat.zero_le _,by rw [List.drop_zero,List.drop_zero,Lad.ofPs_ps,Lad.ofPs_ps]⟩ (fun i σ H2 hi h2=>⟨h2.1.sqT hsa,h2.1.sqT hsb⟩) (fun i x σ H2 H' hi h2 y=>?_) (fun σ H2 h2=>?_)
 ·obtain ⟨s2,⟨o2,o3,rfl⟩,il,io,hlt⟩:=h2;obtain ⟨T,e1,e2,rfl,hT,rfl,ee1,ee2⟩:=y;obtain ⟨p1,ep1,hp1⟩:=hba.get ee1;obtain ⟨p2,ep2,hp2⟩:=hbb.get ee2;obtain ⟨a1,u1,rfl,hs1,hl1⟩:=z0b hp1;obtain ⟨a2,u2,rfl,hs2,hl2⟩:=z0b hp2;have d1:=l.mem_deep p1 (Qu ep1);have d2:=o.mem_deep p2 (Qu ep2);have i1:=(List.getElem?_eq_some_iff.mp ep1).1;have i2:=(List.getElem?_eq_some_iff.mp ep2).1;rw [Lad.lt_drop ep1 ep2] at hlt;have t3:=SB.new (ps:=[]) hT (.tup [.ref a1,.ref a2]);have hT3:SqT K (upd H2 T (.tup [.ref a1,.ref a2])) T [.ref a1,.ref a2]:=SqT.of Qt;have s3:=s2.trans t3;generalize upd H2 T (.tup [.ref a1,.ref a2])=H3 at t3 hT3 s3;have hp13:=z0a s3 _ _ (Lad.pEnc_noList _) hp1;have hp23:=z0a s3 _ _ (Lad.pEnc_noList _) hp2;refine ⟨T,_,rfl,hT3,rfl,_,_,rfl,_,_,rfl,rfl,?_⟩;refine ⟨_,rfl,_,rfl,Lad.pEnc p1,Lad.pEnc p2,hp13,hp23,Lad.shaped_pEnc (by omega),Lad.shaped_pEnc (by omega),_,rfl,?_⟩;rw [Lad.eqv_pEnc];by_cases he:p1.1=p2.1
  ·by_cases hm:p1.2=p2.2
   ·rw [show (!(decide (p1.1=p2.1)&&decide (p1.2=p2.2)))=false by simp [he,hm]];rw [if_pos he,if_pos hm] at hlt;exact iteF ⟨s3,⟨_,_,rfl⟩,by omega,by omega,hlt⟩
   ·rw [show (!(decide (p1.1=p2.1)&&decide (p1.2=p2.2)))=true by simp [hm]];rw [if_pos he,if_neg hm] at hlt;refine iteT ?_;refine ⟨_,rfl,a1,_,_,_,rfl,rfl,s3.sqT hs1,atI_nat (j:=0) rfl,_,rfl,a2,_,_,_,rfl,rfl,s3.sqT hs2,atI_nat (j:=0) rfl,p1.1.enc,p2.1.enc,hl1.sb s3,hl2.sb s3,Lad.shaped_enc (by omega),Lad.shaped_enc (by omega),_,rfl,?_⟩;rw [Lad.eqv_enc,show (!decide (p1.1=p2.1))=false by simp [he]];refine iteF ?_;refine ⟨_,rfl,a1,_,_,_,rfl,rfl,s3.sqT hs1,atI_nat (j:=1) rfl,_,rfl,a2,_,_,_,rfl,rfl,s3.sqT hs2,atI_nat (j:=1) rfl,_,_,rfl,rfl,?_⟩;have:=q H3 s3;rw [hlt] at this;exact this
  ·rw [show (!(decide (p1.1=p2.1)&&decide (p1.2=p2.2)))=true by simp [he]];rw [if_neg he] at hlt;refine iteT ?_;refine ⟨_,rfl,a1,_,_,_,rfl,rfl,s3.sqT hs1,atI_nat (j:=0) rfl,_,rfl,a2,_,_,_,rfl,rfl,s3.sqT hs2,atI_nat (j:=0) rfl,p1.1.enc,p2.1.enc,hl1.sb s3,hl2.sb s3,Lad.shaped_enc (by omega),Lad.shaped_enc (by omega),_,rfl,?_⟩;rw [Lad.eqv_enc,show (!decide (p1.1=p2.1))=true by simp [he]];refine iteT ?_;refine ⟨_,rfl,a1,_,_,_,rfl,rfl,s3.sqT hs1,atI_nat (j:=0) rfl,_,rfl,a2,_,_,_,rfl,rfl,s3.sqT hs2,atI_nat (j:=0) rfl,u1,u2,p1.1,p2.1,rfl,hl1.sb s3,hl2.sb s3,by omega,by omega,by omega,fun H4 s4=>?_⟩;have:=q H4 (s3.trans s4);rw [hlt] at this;exact this
 ·obtain ⟨s2,⟨o2,o3,rfl⟩,il,io,hlt⟩:=h2;have hend:=Lad.lt_end il io (by omega);refine ⟨_,rfl,a,xs,rfl,.inr (s2.sqT hsa),_,rfl,b,ys,rfl,.inr (s2.sqT hsb),_,_,rfl,rfl,?_⟩;have:=q H2 s2;rw [hlt,hend] at this;have e:decide ((xs.length:Int) < (ys.length:Int))=(decide (min xs.length ys.length=l.ps.length)&&decide (min xs.length ys.length < o.ps.length)):=by
   by_cases h:xs.length < ys.length
   ·have h1:min xs.length ys.length=l.ps.length:=by omega
    have h2:min xs.length ys.length < o.ps.length:=by omega
    rw [Ya h1,Ya h2,Ya (by omega)]; rfl
   ·have h2:¬ min xs.length ys.length < o.ps.length:=by omega
    rw [Qz h2,Bool.and_false,Qz (by omega)]
  rw [<- e] at this;exact this
abbrev N_q7:List Str:=["_law_one","_law_other","_law_first","_law_kept","_law_same","_law_pair"]
theorem sc_q7:FnScope N_q7 ["_law_one","_law_other"] (defScope s_q7):=⟨rfl,rfl,rfl,by decide +kernel,rfl,by decide +kernel,by decide +kernel⟩
theorem zi4 (B:BI mg) (G_q15:Got P w K mg base "_law_less" ["_law_one","_law_other"] (40) (z0z K 40)) (F:Fun K "_law_behind" "_law_behind" s_q7 f fd):FnOk P w K mg base CX0 (41) f fd ["_law_one","_law_other"] (z3c K):=by
 refine F.ok sc_q7 (fun vs H Q E h=>?_) (fun cdv A outer s H vs Q E hr h=>?_)
 ·obtain ⟨v,u,l,k,rfl,_⟩:=h
  rfl
 obtain ⟨v,u,l,k,rfl,hv,hu,hd,hd2,hp,hp2,q⟩:=h;have hun2:=hunT hr;refine ⟨_,Qc (Qr (pt_cmpR (op_eqD (by show A.units+3+64 < cLine; omega)) (pv 1) (pe_tup Qb) (nomark _)) (Qe (Qj (pv 0))) pss_nil)
  (Qc (ps_set (i:=2) sc_q7.nd rfl (.inr rfl) (Qm Ql (Qm Ql (pv 1) Qg (fun _ _=>rfl)) Qg (fun _ _=>rfl)))
  (Qc (ps_setLc (i:=3) (own:=[("_law_pair",5)]) (g:=(gName 5)) (tt:=(tB (tCall (z0z K 40) [] E0 (tCons (tVar 2) (tCons (tOp (rIxT K) (tVar 5) (tC (.int 0))) tNil))))) (te:=(tVar 5)) rfl sc_q7.nd rfl rfl (sw_true rfl rfl rfl (by decide +kernel)) (pi_tup (pv 0)) (blkOk_by (N:=N_q7) (sc:=defScope s_q7) (by decide +kernel)) (fun _ _ _ _ _=>(pg_name (i:=5) sc_q7.nd rfl (.inl rfl))) (fun _ _ _ _ _=>(pts_one (Qo (z00 G_q15 (hr.mono (by omega)) rfl (Qa (pv 2) (Qa (Qm Ql (pv 5) Qg (fun _ _=>rfl)) Qb)))))) (fun _ _ _ _ _=>(pv 5)))
  (Qc (ps_setLc (i:=4) (own:=[("_law_pair",5)]) (g:=(gName 5)) (tt:=(tTest (tOp (rEqD K) (tOp (rIxT K) (tVar 5) (tC (.int 0))) (tVar 2)))) (te:=(tOp (rIxT K) (tVar 5) (tC (.int 1)))) rfl sc_q7.nd rfl rfl (sw_true rfl rfl rfl (by decide +kernel)) (pi_tup (pv 0)) (blkOk_by (N:=N_q7) (sc:=defScope s_q7) (by decide +kernel)) (fun _ _ _ _ _=>(pg_name (i:=5) sc_q7.nd rfl (.inl rfl))) (fun _ _ _ _ _=>(pts_one (pt_cmpR (op_eqD (by show A.units+3+64 < cLine; omega)) (Qm Ql (pv 5) Qg (fun _ _=>rfl)) (pv 2) (nomark _)))) (fun _ _ _ _ _=>(Qm Ql (pv 5) Qg (fun _ _=>rfl))))
  (Qe (Qj (pe_op z0y (pe_op z0y (pe_callTy call_tuple_of rfl B.tuple boot_tuple (Qa (pv 3) Qb)) (pe_tup (Qa (pe_tup (Qa (pv 2) (Qa (pe_op op_add (Qm Ql (Qm Ql (pv 1) Qg (fun _ _=>rfl)) Qg (fun _ _=>rfl)) (Qs (cr_sum rfl) rfl B.sum boot_sum (Qa (pv 4) Qb))) Qb))) Qb))) (pe_slice z12 (pv 1) (po_some Qg) po_none))))))),?_⟩
 have szl:=sizeLine_eq;obtain ⟨a,xs,rfl,hsa,hba⟩:=z05 hv;obtain ⟨b,ys,rfl,hsb,hbb⟩:=z05 hu;have xl:=hba.length;have lp:=l.len_parts;rw [<- Lad.ps_length] at lp;refine ⟨_,rfl,by show 0<=sizeLine; decide,fun z nz=>?_⟩;have t1:=SB.new (ps:=[]) nz (.tup []);have hz1:upd H z (.tup []) z=some (.tup []):=Qt;generalize upd H z (.tup [])=H1 at t1 hz1;refine ⟨k.enc,Lad.enc .nil,LA.sb hu t1,z10 (SqT.of hz1),Lad.shaped_enc (by omega),Lad.shaped_enc (by decide),_,rfl,?_⟩;rw [Lad.eqv_enc];cases k with
 | nil =>
  refine iteT ⟨_,rfl,?_⟩;have:=q (.ref a) H1 t1;rw [Lad.bhd_nil] at this;exact this (LA.sb hv t1)
 | cons e m r =>
  refine iteF ?_;rw [show (Lad.cons e m r).ps=(e,m)::r.ps from rfl] at hbb;cases hbb with
  | @cons y0 yr _ _ h0 hbr =>
  obtain ⟨c,ue,rfl,hsc,hle⟩:=z0b h0;have ed:e.deep < (Lad.cons e m r).deep:=Lad.mem_deep (.cons e m r) (e,m) (mcs ..);refine ⟨_,rfl,b,_,_,.ref c,rfl,rfl,t1.sqT hsb,atI_nat (j:=0) rfl,c,_,_,ue,rfl,rfl,t1.sqT hsc,atI_nat (j:=0) rfl,?_⟩;refine ⟨_,rfl,a,rfl,⟨xs,t1.sqT hsa⟩,fun D nD=>?_⟩;refine z0i (walk_tup (xs:=xs)) nD (by omega) (fun i ws H2=>Bears K H2 Lad.pEnc ws ((l.ps.take i).filter fun p=>e.lt p.1)) .nil (fun H2 s2=>(t1.trans s2).sqT hsa) (fun _ _ _ _ s h=>h.sb s Lad.pEnc_noList) (fun Pv i x Hq H2 ws hi s2 y hR hu2 fin skip=>?_) (fun ws H3 s3 hD3 hR hu2=>?_)
  ·obtain ⟨rfl,ey⟩:=y;obtain ⟨p,ep,hpd⟩:=hba.get ey;obtain ⟨ad,ux,rfl,hs2,hla⟩:=z0b hpd;have s12:=t1.trans s2;have pd:=l.mem_deep p (Qu ep);refine ⟨rfl,?_⟩;refine ⟨_,rfl,_,rfl,ad,_,_,ux,rfl,rfl,s12.sqT hs2,atI_nat (j:=0) rfl,ue,ux,e,p.1,rfl,LA.sb hle s12,LA.sb hla s12,by omega,by omega,by omega,fun H4 s4=>⟨_,rfl,?_⟩⟩;have e0:(l.ps.take (i+1)).filter (fun p=>e.lt p.1)=(l.ps.take i).filter (fun p=>e.lt p.1)++(if e.lt p.1=true then [p] else []):=by
    rw [Yg,ep,List.filter_append];cases hc:e.lt p.1 <;> simp [hc]
   cases hc:e.lt p.1 with
   | true =>
    refine iteT ⟨_,rfl,fin _ _ s4 ?_⟩;rw [e0,if_pos hc];exact (hR.sb s4 Lad.pEnc_noList).append (.cons (z0a (s12.trans s4) _ _ (Lad.pEnc_noList _) hpd) .nil)
   | false =>
    refine iteF (skip _ s4 ?_);rw [e0,if_neg (by simp [hc]),List.append_nil];exact hR.sb s4 Lad.pEnc_noList
  rw [xl,Yh] at hR;have s03:=t1.trans s3;refine ⟨_,rfl,a,rfl,⟨xs,s03.sqT hsa⟩,fun D2 nD2=>?_⟩;refine z0i (walk_tup (xs:=xs)) nD2 (by omega) (fun i ws _=>ws=(((l.ps.take i).filter fun x=>decide (x.1=e)).map (·.2)).map V.int) rfl (fun H2 s2=>(s03.trans s2).sqT hsa) (fun _ _ _ _ _ h=>h) (fun Pv i x Hq H2 ws2 hi s2 y hR2 hu3 fin skip=>?_) (fun ws2 H4 s4 hD4 hR2 hu3=>?_)
  ·obtain ⟨rfl,ey⟩:=y;obtain ⟨p,ep,hpd⟩:=hba.get ey;obtain ⟨ad,ux,rfl,hs2,hla⟩:=z0b hpd;have s12:=s03.trans s2;have pd:=l.mem_deep p (Qu ep);refine ⟨rfl,?_⟩;refine ⟨_,rfl,ad,_,_,ux,rfl,rfl,s12.sqT hs2,atI_nat (j:=0) rfl,_,rfl,p.1.enc,e.enc,LA.sb hla s12,LA.sb hle s12,Lad.shaped_enc (by omega),Lad.shaped_enc (by omega),_,rfl,?_⟩;rw [Lad.eqv_enc];by_cases he:p.1=e
   ·rw [Ya he];refine iteT ⟨_,rfl,ad,_,_,_,rfl,rfl,s12.sqT hs2,atI_nat (j:=1) rfl,fin _ _ SB.refl ?_⟩;rw [hR2,Yg,ep];simp [he]
   ·rw [Qz he];refine iteF (skip _ SB.refl ?_);rw [hR2,Yg,ep];simp [he]
  rw [xl,Yh] at hR2;subst hR2;refine z02 ?_;have s04:=s03.trans s4;have hD34:=s4.keep _ _ hD3 nmn;have hR4:=hR.sb s4 Lad.pEnc_noList;refine ⟨_,rfl,D,ws,rfl,.inl ⟨SqL.of hD34,fun kt hkt=>?_⟩⟩;have s5:=SB.new (ps:=[]) hkt (.tup ws);have hkt5:upd H4 kt (.tup ws) kt=some (.tup ws):=Qt;have hR5:=hR4.sb s5 Lad.pEnc_noList;have hD25:=s5.keep _ _ hD4 nmn;have s05:=s04.trans s5;generalize upd H4 kt (.tup ws)=H5 at s5 hkt5 hR5 s05 hD25;refine ⟨_,rfl,_,rfl,b,_,_,.ref c,rfl,rfl,s05.sqT hsb,atI_nat (j:=0) rfl,c,_,_,_,rfl,rfl,s05.sqT hsc,atI_nat (j:=1) rfl,_,rfl,D2,_,rfl,SqL.of hD25,?_⟩;rw [z8k];refine ⟨_,_,rfl,rfl,(by show 2<=sizeLine; decide),fun t1' ht1=>?_⟩;have s6:=SB.new (ps:=[]) ht1 (.tup [ue,.int (m+Lad.sumAt l.ps e)]);have ht6:upd H5 t1' (.tup [ue,.int (m+Lad.sumAt l.ps e)]) t1'=some (.tup [ue,.int (m+Lad.sumAt l.ps e)]):=Qt;generalize upd H5 t1' (.tup [ue,.int (m+Lad.sumAt l.ps e)])=H6 at s6 ht6;refine ⟨(by show 1<=sizeLine; decide),fun t2 ht2=>?_⟩;have s7:=SB.new (ps:=[]) ht2 (.tup [.ref t1']);have ht7:upd H6 t2 (.tup [.ref t1']) t2=some (.tup [.ref t1']):=Qt;have ht67:=s7.sqT (SqT.of (K:=K) ht6);generalize upd H6 t2 (.tup [.ref t1'])=H7 at s7 ht7 ht67;have al:=hR.length;have fl:=List.length_filter_le (fun p:Lad × Int=>e.lt p.1) l.ps;have s57:=s6.trans s7;refine ⟨kt,t2,_,_,rfl,rfl,s57.sqT (SqT.of hkt5),SqT.of ht7,by rw [Yi]; omega,fun c1 H8 s8 hc1=>?_⟩;have s08:=(s05.trans s57).trans s8;refine ⟨_,rfl,1,rfl,b,_,rfl,s08.sqT hsb,fun c2 H9 s9 hc2=>?_⟩;have e1:cutV (V.ref c::yr) (some 1) none=yr:=by
   have:=z2r (V.ref c::yr) 1;exact this
  rw [e1] at hc2;have rl:=hbr.length;have rp:=(Lad.cons e m r).len_parts;have rp2:r.ps.length+1=(Lad.cons e m r).len:=by rw [<- Lad.ps_length]; rfl
  refine ⟨c1,c2,_,_,rfl,rfl,s9.sqT hc1,hc2,by rw [Yf,Yi]; omega,fun c3 H10 s10 hc3=>?_⟩;have s010:=(s08.trans s9).trans s10;refine q _ _ s010 ?_;rw [Lad.bhd_cons,Int.add_comm (Lad.sumAt l.ps e) m];refine z0q hc3 ?_;have z1:=((s57.trans s8).trans s9).trans s10;rw [List.append_assoc];refine Bears.append (hR5.sb z1 Lad.pEnc_noList) (.cons ?_ (hbr.sb s010 Lad.pEnc_noList));exact Dp.tup (((s8.trans s9).trans s10).sqT ht67) (.cons (LA.sb hle s010) (.cons (.int _) .nil))
abbrev N_q8:List Str:=["_law_one","_law_other","_law_found","_law_left","_law_right"]
theorem sc_q8:FnScope N_q8 ["_law_one","_law_other"] (defScope s_q8):=⟨rfl,rfl,rfl,by decide +kernel,rfl,by decide +kernel,by decide +kernel⟩
theorem zhz (B:BI mg) (G_q15:Got P w K mg base "_law_less" ["_law_one","_law_other"] (40) (z0z K 40)) (F:Fun K "_law_both" "_law_both" s_q8 f fd):FnOk P w K mg base CX0 (41) f fd ["_law_one","_law_other"] (z6u K):=by
 refine F.ok sc_q8 (fun vs H Q E h=>?_) (fun cdv A outer s H vs Q E hr h=>?_)
 ·obtain ⟨v,u,l,k,rfl,_⟩:=h
  rfl
 obtain ⟨v,u,l,k,rfl,hv,hu,hd,hd2,hp,hp2,q⟩:=h;have hun2:=hunT hr;refine ⟨_,Qc (ps_set (i:=2) sc_q8.nd rfl (.inl rfl) (pe_lst Qb))
  (Qc (ps_set (i:=3) sc_q8.nd rfl (.inl rfl) (pe_callTy call_list_of rfl B.list boot_list (Qa (pv 0) Qb)))
  (Qc (ps_set (i:=4) sc_q8.nd rfl (.inl rfl) (pe_callTy call_list_of rfl B.list boot_list (Qa (pv 1) Qb)))
  (Qc (ps_while PassesOwn.never (PW.pt (pw_and (pt_cmpR (op_neD (by show A.units+3+64 < cLine; omega)) (pv 3) (pe_lst Qb) (nomark _)) (pw_and1 (pt_cmpR (op_neD (by show A.units+3+64 < cLine; omega)) (pv 4) (pe_lst Qb) (nomark _))))) (Qe (Qr (pt_cmpR (op_eqD (by show A.units+3+64 < cLine; omega)) (Qm Ql (Qm ix_list (pv 3) Qg (fun _ _=>rfl)) Qg (fun _ _=>rfl)) (Qm Ql (Qm ix_list (pv 4) Qg (fun _ _=>rfl)) Qg (fun _ _=>rfl)) (nomark _)) (Qe (ps_expr (pe_bm PySem.F.plainAttrs_list PySem.F.slot_list_append PySem.F.type_list_append mt_append (pv 2) (Qa (pe_tup (Qa (Qm Ql (Qm ix_list (pv 3) Qg (fun _ _=>rfl)) Qg (fun _ _=>rfl)) (Qa (pe_op op_add (Qm Ql (pe_bm PySem.F.plainAttrs_list PySem.F.slot_list_pop PySem.F.type_list_pop mt_popAt (pv 3) (Qa Qg Qb)) Qg (fun _ _=>rfl)) (Qm Ql (pe_bm PySem.F.plainAttrs_list PySem.F.slot_list_pop PySem.F.type_list_pop mt_popAt (pv 4) (Qa Qg Qb)) Qg (fun _ _=>rfl))) Qb))) Qb)))) (Qe (Qr (Qo (z00 G_q15 (hr.mono (by omega)) rfl (Qa (Qm Ql (Qm ix_list (pv 3) Qg (fun _ _=>rfl)) Qg (fun _ _=>rfl)) (Qa (Qm Ql (Qm ix_list (pv 4) Qg (fun _ _=>rfl)) Qg (fun _ _=>rfl)) Qb)))) (Qe (ps_expr (pe_bm PySem.F.plainAttrs_list PySem.F.slot_list_append PySem.F.type_list_append mt_append (pv 2) (Qa (pe_bm PySem.F.plainAttrs_list PySem.F.slot_list_pop PySem.F.type_list_pop mt_popAt (pv 4) (Qa Qg Qb)) Qb)))) (Qe (ps_expr (pe_bm PySem.F.plainAttrs_list PySem.F.slot_list_append PySem.F.type_list_append mt_append (pv 2) (Qa (pe_bm PySem.F.plainAttrs_list PySem.F.slot_list_pop PySem.F.type_list_pop mt_popAt (pv 3) (Qa Qg Qb)) Qb)))))))))
  (Qe (Qj (pe_callTy call_tuple_of rfl B.tuple boot_tuple (Qa (pe_op op_cat (pe_op op_cat (pv 2) (pv 3)) (pv 4)) Qb))))))),?_⟩
 have szl:=sizeLine_eq;obtain ⟨a,xs,rfl,hsa,hba⟩:=z05 hv;obtain ⟨b,ys,rfl,hsb,hbb⟩:=z05 hu;have xl:=hba.length;have yl:=hbb.length;have llp:=l.len_parts;have klp:=k.len_parts;rw [<- Lad.ps_length] at llp klp;have ld:∀ p ∈ l.ps,p.1.deep<=30:=fun p hp=>by have:=l.mem_deep p hp; omega
 have kd:∀ p ∈ k.ps,p.1.deep<=30:=fun p hp=>by have:=k.mem_deep p hp; omega
 refine ⟨by show 0<=sizeLine; decide,fun D hD=>?_⟩;have t0:=SB.new (ps:=[]) hD (.lst []);have hD0:upd H D (.lst []) D=some (.lst []):=Qt;generalize upd H D (.lst [])=H0 at t0 hD0;refine z02 ?_;refine ⟨_,rfl,a,_,rfl,.inr (t0.sqT hsa),fun A hA=>?_⟩;have t1:=SB.new (ps:=[]) hA (.lst xs);have hA1:upd H0 A (.lst xs) A=some (.lst xs):=Qt;have hD1:=t1.keep _ _ hD0 nmn;have DA:D ≠ A:=ne_of_none hD0 hA;have s1:=t0.trans t1;have nA:H A=none:=t0.dom _ hA;generalize upd H0 A (.lst xs)=H1 at t1 hA1 hD1 s1;refine z02 ?_;refine ⟨_,rfl,b,_,rfl,.inr (s1.sqT hsb),fun B hB=>?_⟩;have t2:=SB.new (ps:=[]) hB (.lst ys);have hB2:upd H1 B (.lst ys) B=some (.lst ys):=Qt;have hD2:=t2.keep _ _ hD1 nmn;have hA2:=t2.keep _ _ hA1 nmn;have DB:D ≠ B:=ne_of_none hD1 hB;have AB:A ≠ B:=ne_of_none hA1 hB;have s2:=s1.trans t2;have nB:H B=none:=s1.dom _ hB;generalize upd H1 B (.lst ys)=H2 at t2 hB2 hD2 hA2 s2;refine z02 ?_;refine ⟨fun mm σ G=>∃ (F L R:List (Lad × Int)) (fs ls rs:List V),mm=L.length+R.length/\SB [D,A,B] H G/\σ=[some (.ref a),some (.ref b),some (.ref D),some (.ref A),some (.ref B)]/\G D=some (.lst fs)/\G A=some (.lst ls)/\G B=some (.lst rs)/\Bears K G Lad.pEnc fs F/\Bears K G Lad.pEnc ls L/\Bears K G Lad.pEnc rs R/\Lad.mrg l k=Lad.ofPs (F++(Lad.mrg (Lad.ofPs L) (Lad.ofPs R)).ps)/\F.length+L.length+R.length<=9000000/\(∀ p ∈ L,p.1.deep<=30)/\(∀ p ∈ R,p.1.deep<=30),
  ⟨_,[],l.ps,k.ps,[],xs,ys,rfl,s2.nil,rfl,hD2,hA2,hB2,.nil,hba.sb s2 Lad.pEnc_noList,hbb.sb s2 Lad.pEnc_noList,by rw [List.nil_append,Lad.ofPs_ps,Lad.ofPs_ps,Lad.ofPs_ps],by show 0+_+_<=_; omega,ld,kd⟩,fun mm σ G hG=>?_⟩
 obtain ⟨F,L,R,fs,ls,rs,rfl,s3,rfl,hD3,hA3,hB3,hF,hL,hR,hmr,hlen,Ld,Rd⟩:=hG;have fl:=hF.length;have ll:=hL.length;have rl:=hR.length
 -- what is behind the loop
 have fin:L=[]\/R=[]->∀ G2,SB [] G G2->tRet (tCB (fun xs H_1 Q=>∃ p ys,xs=[V.ref p]/\((SqL K H_1 p ys/\∀ l,H_1 l=none->Q (V.ref l) (upd H_1 l (HO.tup ys)))\/(SqT K H_1 p ys/\Q (V.ref p) H_1))) (tCons (tOp rCat (tOp rCat (tVar 2) (tVar 3)) (tVar 4)) tNil)) { nx:=fun x H'=>Q V.non H',rt:=Q } [some (.ref a),some (.ref b),some (.ref D),some (.ref A),some (.ref B)] G2:=fun hor G2 u=>by
  have hD4:=u.keep _ _ hD3 nmn;have hA4:=u.keep _ _ hA3 nmn;have hB4:=u.keep _ _ hB3 nmn;refine ⟨_,rfl,_,rfl,D,A,_,_,rfl,rfl,hD4,hA4,by omega,fun M hM=>?_⟩;have t5:=SB.new (ps:=[]) hM (.lst (fs++ls));have hM5:upd G2 M (.lst (fs++ls)) M=some (.lst (fs++ls)):=Qt;have hB5:=t5.keep _ _ hB4 nmn;generalize upd G2 M (.lst (fs++ls))=G5 at t5 hM5 hB5;refine ⟨_,rfl,M,B,_,_,rfl,rfl,hM5,hB5,by rw [Yf]; omega,fun N hN=>?_⟩;have t6:=SB.new (ps:=[]) hN (.lst (fs++ls++rs));have hN6:upd G5 N (.lst (fs++ls++rs)) N=some (.lst (fs++ls++rs)):=Qt;generalize upd G5 N (.lst (fs++ls++rs))=G6 at t6 hN6;refine ⟨N,_,rfl,.inl ⟨SqL.of hN6,fun T nT=>?_⟩⟩;have t7:=SB.new (ps:=[]) nT (.tup (fs++ls++rs));have u7:=((u.trans t5).trans t6).trans t7;refine q (.ref T) _ ((((s3.trans u7.nil).drop hD).drop nA).drop nB) ?_;have e:Lad.mrg l k=Lad.ofPs (F++L++R):=by
   rw [hmr];rcases hor with h | h
   ·rw [h,show Lad.ofPs ([]:List (Lad × Int))=.nil from rfl,Lad.mrg_nil_l,Lad.ps_ofPs,List.append_nil]
   ·rw [h,show Lad.ofPs ([]:List (Lad × Int))=.nil from rfl,Lad.mrg_nil_r,Lad.ps_ofPs,List.append_nil]
  rw [e];exact z0q (SqT.of Qt) (((hF.sb u7 Lad.pEnc_noList).append (hL.sb u7 Lad.pEnc_noList)).append (hR.sb u7 Lad.pEnc_noList))
 refine ⟨_,rfl,by show 0<=sizeLine; decide,fun z0 nz0=>?_⟩;have t4:=SB.new (ps:=[]) nz0 (.lst []);have hz4:upd G z0 (.lst []) z0=some (.lst []):=Qt;generalize upd G z0 (.lst [])=G4 at t4 hz4;refine ⟨.list (L.map Lad.pEnc),.list [],Dp.lst (SqL.of (t4.keep _ _ hA3 nmn)) (z22 (hL.sb t4 Lad.pEnc_noList)),Dp.lst (SqL.of hz4) .nil,Lad.shaped_rowsL Ld,by decide +kernel,_,rfl,?_⟩;cases hLc:L with
 | nil =>
  rw [show (!PyData.eqv (.list (([]:List (Lad × Int)).map Lad.pEnc)) (.list []))=false by simp [PyData.eqv,PyData.eqvAll]];exact iteF (iteF (fin (.inl hLc) G4 t4))
 | cons p1 L2 =>
 rw [show (!PyData.eqv (.list ((p1::L2).map Lad.pEnc)) (.list []))=true by simp [PyData.eqv,PyData.eqvAll]];refine iteT ?_;refine ⟨_,rfl,by show 0<=sizeLine; decide,fun z1 nz1=>?_⟩;have t5:=SB.new (ps:=[]) nz1 (.lst []);have hz5:upd G4 z1 (.lst []) z1=some (.lst []):=Qt;have u5:=t4.trans t5;generalize upd G4 z1 (.lst [])=G5 at t5 hz5 u5;have hD5:=u5.keep _ _ hD3 nmn;have hA5:=u5.keep _ _ hA3 nmn;have hB5:=u5.keep _ _ hB3 nmn;have hF5:=hF.sb u5 Lad.pEnc_noList;have hL5:=hL.sb u5 Lad.pEnc_noList;have hR5:=hR.sb u5 Lad.pEnc_noList;refine ⟨.list (R.map Lad.pEnc),.list [],Dp.lst (SqL.of hB5) (z22 hR5),Dp.lst (SqL.of hz5) .nil,Lad.shaped_rowsL Rd,by decide +kernel,_,rfl,?_⟩;cases hRc:R with
 | nil =>
  rw [show (!PyData.eqv (.list (([]:List (Lad × Int)).map Lad.pEnc)) (.list []))=false by simp [PyData.eqv,PyData.eqvAll]];exact iteF (fin (.inr hRc) G5 u5)
 | cons p2 R2 =>
 rw [show (!PyData.eqv (.list ((p2::R2).map Lad.pEnc)) (.list []))=true by simp [PyData.eqv,PyData.eqvAll]];refine iteT ⟨_,fun σ' H' h=>h,?_⟩;subst hLc hRc;have s5:SB [D,A,B] H G5:=s3.trans u5.nil;cases hL5 with
 | @cons v1 ls2 _ _ hv1 hL5 =>
 cases hR5 with
 | @cons v2 rs2 _ _ hv2 hR5 =>
 obtain ⟨a1,u1,rfl,hs1,hl1⟩:=z0b hv1;obtain ⟨a2,u2,rfl,hs2,hl2⟩:=z0b hv2;obtain ⟨e1,m1⟩:=p1;obtain ⟨e2,m2⟩:=p2;have ed1:e1.deep<=30:=Ld (e1,m1) (mcs ..);have ed2:e2.deep<=30:=Rd (e2,m2) (mcs ..);have Ld2:∀ p ∈ L2,p.1.deep<=30:=fun p hp=>Ld p (mcm _ hp);have Rd2:∀ p ∈ R2,p.1.deep<=30:=fun p hp=>Rd p (mcm _ hp);rw [show Lad.ofPs ((e1,m1)::L2)=.cons e1 m1 (Lad.ofPs L2) from rfl,show Lad.ofPs ((e2,m2)::R2)=.cons e2 m2 (Lad.ofPs R2) from rfl,Lad.mrg_cons] at hmr;have le1:((e1,m1)::L2).length=L2.length+1:=rfl;have le2:((e2,m2)::R2).length=R2.length+1:=rfl;rw [le1,le2] at hlen;refine ⟨_,rfl,A,_,_,_,rfl,rfl,SqL.of hA5,atI_nat (j:=0) rfl,a1,_,_,_,rfl,rfl,hs1,atI_nat (j:=0) rfl,_,rfl,B,_,_,_,rfl,rfl,SqL.of hB5,atI_nat (j:=0) rfl,a2,_,_,_,rfl,rfl,hs2,atI_nat (j:=0) rfl,e1.enc,e2.enc,hl1,hl2,Lad.shaped_enc (by omega),Lad.shaped_enc (by omega),_,rfl,?_⟩;rw [Lad.eqv_enc];by_cases he:e1=e2
 ·subst he;rw [Ya rfl];rw [if_pos rfl] at hmr;refine iteT ?_;refine ⟨_,rfl,.inl ⟨rfl,_,SqL.of hD5⟩,_,rfl,A,_,_,_,rfl,rfl,SqL.of hA5,atI_nat (j:=0) rfl,a1,_,_,_,rfl,rfl,hs1,atI_nat (j:=0) rfl,?_⟩;have zA:(V.ref a1::ls2).length=ls2.length+1:=rfl;have zB:(V.ref a2::rs2).length=rs2.length+1:=rfl;refine ⟨_,rfl,.inl ⟨rfl,_,SqL.of hA5⟩,A,_,_,0,.ref a1,rfl,rfl,hA5,by omega,by omega,by rw [PySem.seqIndex_of (by omega) (by omega)]; rfl,rfl,?_⟩;have t6:=SB.set (ps:=[A]) hA5 (by simp) (.lst ls2);have hA6:upd G5 A (.lst ls2) A=some (.lst ls2):=Qt;have hB6:=t6.keep _ _ hB5 (by simpa using fun z:B=A=>AB z.symm);have hD6:=t6.keep _ _ hD5 (by simpa using DA);rw [show ((V.ref a1::ls2).eraseIdx 0)=ls2 from rfl];generalize upd G5 A (.lst ls2)=G6 at t6 hA6 hB6 hD6;refine ⟨a1,_,_,_,rfl,rfl,t6.sqT hs1,atI_nat (j:=1) rfl,?_⟩;refine ⟨_,rfl,.inl ⟨rfl,_,SqL.of hB6⟩,B,_,_,0,.ref a2,rfl,rfl,hB6,by omega,by omega,by rw [PySem.seqIndex_of (by omega) (by omega)]; rfl,rfl,?_⟩;have t7:=SB.set (ps:=[B]) hB6 (by simp) (.lst rs2);have hB7:upd G6 B (.lst rs2) B=some (.lst rs2):=Qt;have hA7:=t7.keep _ _ hA6 (by simpa using AB);have hD7:=t7.keep _ _ hD6 (by simpa using DB);rw [show ((V.ref a2::rs2).eraseIdx 0)=rs2 from rfl];generalize upd G6 B (.lst rs2)=G7 at t7 hB7 hA7 hD7;refine ⟨a2,_,_,_,rfl,rfl,t7.sqT (t6.sqT hs2),atI_nat (j:=1) rfl,_,_,rfl,rfl,?_⟩;refine ⟨by show 2<=sizeLine; decide,fun T nT=>?_⟩;have t8:=SB.new (ps:=[]) nT (.tup [u1,.int (m1+m2)]);have hT8:SqT K (upd G7 T (.tup [u1,.int (m1+m2)])) T [u1,.int (m1+m2)]:=SqT.of Qt;have hA8:=t8.keep _ _ hA7 nmn;have hB8:=t8.keep _ _ hB7 nmn;have hD8:=t8.keep _ _ hD7 nmn;generalize upd G7 T (.tup [u1,.int (m1+m2)])=G8 at t8 hT8 hA8 hB8 hD8;have s58:SB [D,A,B] G5 G8:=((t6.mono (by simp)).trans (t7.mono (by simp))).trans t8.nil;refine ⟨D,_,_,rfl,rfl,hD8,by omega,?_⟩;have t9:=SB.set (ps:=[D]) hD8 (by simp) (.lst (fs++[.ref T]));have s59:SB [D,A,B] G5 _:=s58.trans (t9.mono (by simp));refine ⟨_,?_,F++[(e1,m1+m2)],L2,R2,fs++[.ref T],ls2,rs2,rfl,s5.trans s59,rfl,Qt,t9.keep _ _ hA8 (by simpa using fun z:A=D=>DA z.symm),t9.keep _ _ hB8 (by simpa using fun z:B=D=>DB z.symm),(hF5.sb s59 Lad.pEnc_noList).append (.cons (Dp.tup (t9.sqT hT8) (.cons (LA.sb hl1 s59) (.cons (.int _) .nil))) .nil),hL5.sb s59 Lad.pEnc_noList,hR5.sb s59 Lad.pEnc_noList,?_,?_,Ld2,Rd2⟩
  ·rw [le1,le2]; omega
  ·rw [hmr,List.append_assoc]; rfl
  ·rw [Yf,Yi]; omega
 ·rw [Qz he];rw [if_neg he] at hmr;refine iteF ?_;refine ⟨_,rfl,A,_,_,_,rfl,rfl,SqL.of hA5,atI_nat (j:=0) rfl,a1,_,_,_,rfl,rfl,hs1,atI_nat (j:=0) rfl,_,rfl,B,_,_,_,rfl,rfl,SqL.of hB5,atI_nat (j:=0) rfl,a2,_,_,_,rfl,rfl,hs2,atI_nat (j:=0) rfl,u1,u2,e1,e2,rfl,hl1,hl2,by omega,by omega,by omega,fun G6 s6=>?_⟩;have zA:(V.ref a1::ls2).length=ls2.length+1:=rfl;have zB:(V.ref a2::rs2).length=rs2.length+1:=rfl;have hA6:=s6.keep _ _ hA5 nmn;have hB6:=s6.keep _ _ hB5 nmn;have hD6:=s6.keep _ _ hD5 nmn;cases hlt:e1.lt e2 with
  | true =>
   rw [if_pos hlt] at hmr;refine ⟨_,rfl,iteT ?_⟩;refine ⟨_,rfl,.inl ⟨rfl,_,SqL.of hD6⟩,_,rfl,.inl ⟨rfl,_,SqL.of hB6⟩,B,_,_,0,.ref a2,rfl,rfl,hB6,by omega,by omega,by rw [PySem.seqIndex_of (by omega) (by omega)]; rfl,rfl,?_⟩;have t7:=SB.set (ps:=[B]) hB6 (by simp) (.lst rs2);have hB7:upd G6 B (.lst rs2) B=some (.lst rs2):=Qt;have hA7:=t7.keep _ _ hA6 (by simpa using AB);have hD7:=t7.keep _ _ hD6 (by simpa using DB);rw [show ((V.ref a2::rs2).eraseIdx 0)=rs2 from rfl];generalize upd G6 B (.lst rs2)=G7 at t7 hB7 hA7 hD7;have s57:SB [D,A,B] G5 G7:=s6.nil.trans (t7.mono (by simp));refine ⟨D,_,_,rfl,rfl,hD7,by omega,?_⟩;have t9:=SB.set (ps:=[D]) hD7 (by simp) (.lst (fs++[.ref a2]));have s59:SB [D,A,B] G5 _:=s57.trans (t9.mono (by simp));refine ⟨_,?_,F++[(e2,m2)],(e1,m1)::L2,R2,fs++[.ref a2],.ref a1::ls2,rs2,rfl,s5.trans s59,rfl,Qt,t9.keep _ _ hA7 (by simpa using fun z:A=D=>DA z.symm),t9.keep _ _ hB7 (by simpa using fun z:B=D=>DB z.symm),(hF5.sb s59 Lad.pEnc_noList).append (.cons (z0a s59 _ _ (Lad.pEnc_noList _) hv2) .nil),.cons (z0a s59 _ _ (Lad.pEnc_noList _) hv1) (hL5.sb s59 Lad.pEnc_noList),hR5.sb s59 Lad.pEnc_noList,?_,?_,Ld,Rd2⟩
   ·rw [le1,le2]; omega
   ·rw [hmr,List.append_assoc]; rfl
   ·rw [Yf,Yi,le1]; omega
  | false =>
   rw [if_neg (by rw [hlt]; simp)] at hmr;refine ⟨_,rfl,iteF ?_⟩;refine ⟨_,rfl,.inl ⟨rfl,_,SqL.of hD6⟩,_,rfl,.inl ⟨rfl,_,SqL.of hA6⟩,A,_,_,0,.ref a1,rfl,rfl,hA6,by omega,by omega,by rw [PySem.seqIndex_of (by omega) (by omega)]; rfl,rfl,?_⟩;have t7:=SB.set (ps:=[A]) hA6 (by simp) (.lst ls2);have hA7:upd G6 A (.lst ls2) A=some (.lst ls2):=Qt;have hB7:=t7.keep _ _ hB6 (by simpa using fun z:B=A=>AB z.symm);have hD7:=t7.keep _ _ hD6 (by simpa using DA);rw [show ((V.ref a1::ls2).eraseIdx 0)=ls2 from rfl];generalize upd G6 A (.lst ls2)=G7 at t7 hA7 hB7 hD7;have s57:SB [D,A,B] G5 G7:=s6.nil.trans (t7.mono (by simp));refine ⟨D,_,_,rfl,rfl,hD7,by omega,?_⟩;have t9:=SB.set (ps:=[D]) hD7 (by simp) (.lst (fs++[.ref a1]));have s59:SB [D,A,B] G5 _:=s57.trans (t9.mono (by simp));refine ⟨_,?_,F++[(e1,m1)],L2,(e2,m2)::R2,fs++[.ref a1],ls2,.ref a2::rs2,rfl,s5.trans s59,rfl,Qt,t9.keep _ _ hA7 (by simpa using fun z:A=D=>DA z.symm),t9.keep _ _ hB7 (by simpa using fun z:B=D=>DB z.symm),(hF5.sb s59 Lad.pEnc_noList).append (.cons (z0a s59 _ _ (Lad.pEnc_noList _) hv1) .nil),hL5.sb s59 Lad.pEnc_noList,.cons (z0a s59 _ _ (Lad.pEnc_noList _) hv2) (hR5.sb s59 Lad.pEnc_noList),?_,?_,Ld2,Rd⟩
   ·rw [le1,le2]; omega
   ·rw [hmr,List.append_assoc]; rfl
   ·rw [Yf,Yi,le2]; omega
abbrev N_q6:List Str:=["_law_one","_law_other","_law_first","_law_kept","_law_pair"]
theorem sc_q6:FnScope N_q6 ["_law_one","_law_other"] (defScope s_q6):=⟨rfl,rfl,rfl,by decide +kernel,rfl,by decide +kernel,by decide +kernel⟩
theorem ziz (B:BI mg) (G_q8:Got P w K mg base "_law_both" ["_law_one","_law_other"] (41) (z6u K)) (G_q15:Got P w K mg base "_law_less" ["_law_one","_law_other"] (40) (z0z K 40)) (G_q7:Got P w K mg base "_law_behind" ["_law_one","_law_other"] (41) (z3c K)) (F:Fun K "_law_above" "_law_above" s_q6 f fd):FnOk P w K mg base CX0 (42) f fd ["_law_one","_law_other"] (z89 K):=by
 refine F.ok sc_q6 (fun vs H Q E h=>?_) (fun cdv A outer s H vs Q E hr h=>?_)
 ·obtain ⟨v,u,l,k,rfl,_⟩:=h
  rfl
 obtain ⟨v,u,l,k,rfl,hv,hu,hl,hk,hd,hd2,hp,hp2,q⟩:=h;have hun2:=hunT hr;refine ⟨_,Qc (Qr (pt_cmpR (op_eqD (by show A.units+3+64 < cLine; omega)) (pv 1) (pe_tup Qb) (nomark _)) (Qe (Qj (z00 G_q8 (hr.mono (by omega)) rfl (Qa (pv 0) (Qa (pe_tup (Qa (pe_tup (Qa (pe_tup Qb) (Qa Qg Qb))) Qb)) Qb))))) pss_nil)
  (Qc (ps_set (i:=2) sc_q6.nd rfl (.inr rfl) (Qm Ql (Qm Ql (pv 1) Qg (fun _ _=>rfl)) Qg (fun _ _=>rfl)))
  (Qc (ps_set (i:=3) sc_q6.nd rfl (.inl rfl) (pe_callTy call_tuple_of rfl B.tuple boot_tuple (Qa (pe_lc (own:=[("_law_pair",4)]) (g:=(gName 4)) (tt:=(tB (tCall (z0z K 40) [] E0 (tCons (tVar 2) (tCons (tOp (rIxT K) (tVar 4) (tC (.int 0))) tNil))))) (te:=(tVar 4)) rfl sc_q6.nd (pi_tup (pv 0)) (blkOk_by (N:=N_q6) (sc:=defScope s_q6) (by decide +kernel)) (fun _ _ _ _ _=>(pg_name (i:=4) sc_q6.nd rfl (.inl rfl))) (fun _ _ _ _ _=>(pts_one (Qo (z00 G_q15 (hr.mono (by omega)) rfl (Qa (pv 2) (Qa (Qm Ql (pv 4) Qg (fun _ _=>rfl)) Qb)))))) (fun _ _ _ _ _=>(pv 4))) Qb)))
  (Qe (Qj (z00 G_q8 (hr.mono (by omega)) rfl (Qa (pv 3) (Qa (pe_tup (Qa (pe_tup (Qa (z00 G_q7 (hr.mono (by omega)) rfl (Qa (pv 2) (Qa (pe_tup (Qa (pe_tup (Qa (pe_tup Qb) (Qa Qg Qb))) Qb)) Qb))) (Qa Qg Qb))) Qb)) Qb))))))),?_⟩
 have szl:=sizeLine_eq;obtain ⟨a,xs,rfl,hsa,hba⟩:=z05 hv;obtain ⟨b,ys,rfl,hsb,hbb⟩:=z05 hu;have xl:=hba.length;have lp:=l.len_parts;rw [<- Lad.ps_length] at lp;refine ⟨_,rfl,by show 0<=sizeLine; decide,fun z nz=>?_⟩;have t1:=SB.new (ps:=[]) nz (.tup []);have hz1:upd H z (.tup []) z=some (.tup []):=Qt;generalize upd H z (.tup [])=H1 at t1 hz1;refine ⟨k.enc,Lad.enc .nil,LA.sb hu t1,z10 (SqT.of hz1),Lad.shaped_enc (by omega),Lad.shaped_enc (by decide),_,rfl,?_⟩;rw [Lad.eqv_enc];cases k with
 | nil =>
  refine iteT ⟨_,rfl,?_⟩;refine z5v (z6s (K:=K) fun x1 H2 s2 hx1=>?_);refine ⟨.ref a,x1,l,Lad.uno,rfl,LA.sb (LA.sb hv t1) s2,hx1,by omega,by decide,by omega,by decide,fun x H3 s3 hx=>q x H3 ((t1.trans s2).trans s3) (by rw [Lad.mrg_bth hl Lad.R.uno] at hx; exact hx)⟩
 | cons e m r =>
  refine iteF ?_;rw [show (Lad.cons e m r).ps=(e,m)::r.ps from rfl] at hbb;cases hbb with
  | @cons y0 yr _ _ h0 hbr =>
  obtain ⟨c,ue,rfl,hsc,hle⟩:=z0b h0;have ed:e.deep < (Lad.cons e m r).deep:=Lad.mem_deep (.cons e m r) (e,m) (mcs ..);have ept:e.parts<=(Lad.cons e m r).parts:=by show e.parts<=1+e.parts+r.parts; omega
  refine ⟨_,rfl,b,_,_,.ref c,rfl,rfl,t1.sqT hsb,atI_nat (j:=0) rfl,c,_,_,ue,rfl,rfl,t1.sqT hsc,atI_nat (j:=0) rfl,?_⟩;refine ⟨_,rfl,a,rfl,⟨xs,t1.sqT hsa⟩,fun D nD=>?_⟩;refine z0i (walk_tup (xs:=xs)) nD (by omega) (fun i ws H2=>Bears K H2 Lad.pEnc ws ((l.ps.take i).filter fun p=>e.lt p.1)) .nil (fun H2 s2=>(t1.trans s2).sqT hsa) (fun _ _ _ _ s h=>h.sb s Lad.pEnc_noList) (fun Pv i x Hq H2 ws hi s2 y hR hu2 fin skip=>?_) (fun ws H3 s3 hD3 hR hu2=>?_)
  ·obtain ⟨rfl,ey⟩:=y;obtain ⟨p,ep,hpd⟩:=hba.get ey;obtain ⟨ad,ux,rfl,hs2,hla⟩:=z0b hpd;have s12:=t1.trans s2;have pd:=l.mem_deep p (Qu ep);refine ⟨rfl,?_⟩;refine ⟨_,rfl,_,rfl,ad,_,_,ux,rfl,rfl,s12.sqT hs2,atI_nat (j:=0) rfl,ue,ux,e,p.1,rfl,LA.sb hle s12,LA.sb hla s12,by omega,by omega,by omega,fun H4 s4=>⟨_,rfl,?_⟩⟩;have e0:(l.ps.take (i+1)).filter (fun p=>e.lt p.1)=(l.ps.take i).filter (fun p=>e.lt p.1)++(if e.lt p.1=true then [p] else []):=by
    rw [Yg,ep,List.filter_append];cases hc:e.lt p.1 <;> simp [hc]
   cases hc:e.lt p.1 with
   | true =>
    refine iteT ⟨_,rfl,fin _ _ s4 ?_⟩;rw [e0,if_pos hc];exact (hR.sb s4 Lad.pEnc_noList).append (.cons (z0a (s12.trans s4) _ _ (Lad.pEnc_noList _) hpd) .nil)
   | false =>
    refine iteF (skip _ s4 ?_);rw [e0,if_neg (by simp [hc]),List.append_nil];exact hR.sb s4 Lad.pEnc_noList
  rw [xl,Yh] at hR;have s03:=t1.trans s3;refine ⟨D,ws,rfl,.inl ⟨SqL.of hD3,fun kt hkt=>?_⟩⟩;have s5:=SB.new (ps:=[]) hkt (.tup ws);have kept:LA K (upd H3 kt (.tup ws)) (.ref kt) (Lad.ofPs (l.ps.filter fun p=>e.lt p.1)):=z0q (SqT.of Qt) (hR.sb s5 Lad.pEnc_noList);have s05:=s03.trans s5;generalize upd H3 kt (.tup ws)=H5 at s5 kept s05;refine ⟨_,rfl,?_⟩;refine z5v (tupI (z5v (tupI (z5v ⟨_,rfl,z5v (z6s (K:=K) fun x1 H6 s6 hx1=>?_)⟩))));have eo:=hk.exp;refine ⟨ue,x1,e,Lad.uno,rfl,LA.sb (LA.sb hle s05) s6,hx1,by omega,by decide,by omega,by decide,fun x2 H7 s7 hx2=>?_⟩;have bo:=eo.bhd Lad.R.uno;have fo:Lad.R (Lad.ofPs (l.ps.filter fun p=>e.lt p.1)):=by
   obtain ⟨B,hB,hb⟩:=hl;exact ⟨B,hB,Lad.filter_ok hb _⟩
  have b1:=Lad.bhd_parts e Lad.uno;have b2:=Lad.bhd_deep (n:=29) (l:=e) (k:=Lad.uno) (by omega) (by decide);have b3:=Lad.filter_parts l fun p=>e.lt p.1;have b4:Lad.uno.parts=1:=rfl;refine ⟨by show 2<=sizeLine; decide,fun t8 nt8=>?_⟩;have s8:=SB.new (ps:=[]) nt8 (.tup [x2,.int 1]);have ht8:upd H7 t8 (.tup [x2,.int 1]) t8=some (.tup [x2,.int 1]):=Qt;generalize upd H7 t8 (.tup [x2,.int 1])=H8 at s8 ht8;refine ⟨by show 1<=sizeLine; decide,fun t9 nt9=>?_⟩;have s9:=SB.new (ps:=[]) nt9 (.tup [.ref t8]);have s59:=((s6.trans s7).trans s8).trans s9;refine ⟨.ref kt,.ref t9,_,.cons (Lad.bhd e Lad.uno) 1 .nil,rfl,LA.sb kept s59,z3j (SqT.of Qt) (s9.sqT (SqT.of ht8)) (LA.sb hx2 (s8.trans s9)),Yb (Lad.filter_deep _ hd) (by decide),by show max (1+(Lad.bhd e Lad.uno).deep) 0<=30; omega,by omega,by show 1+(Lad.bhd e Lad.uno).parts+0<=4000000; omega,fun x H' s10 hx=>q x H' ((s05.trans s59).trans s10) (by rw [Lad.mrg_bth fo bo.pow] at hx; exact hx)⟩
abbrev zgq:List Str:=["_law_book","_law_known","_law_name","_law_found","_law_once","_law_each","_law_more"]
theorem sc_q18:FnScope zgq ["_law_book","_law_known","_law_name"] (defScope z6m):=⟨rfl,rfl,rfl,by decide +kernel,rfl,by decide +kernel,by decide +kernel⟩
theorem zgl {n:Nat} (B:BI mg) (G_q6:Got P w K mg base "_law_above" ["_law_one","_law_other"] (42) (z89 K)) (G_q20:Got P w K mg base "_law_rank" ["_law_book","_law_known","_law_grove"] (n+43) (z29 K n)) (G_q15:Got P w K mg base "_law_less" ["_law_one","_law_other"] (40) (z0z K 40)) (F:Fun K "_law_own" "_law_own" z6m f fd):FnOk P w K mg base CX0 (n+44) f fd ["_law_book","_law_known","_law_name"] (z5e K (n+1)):=by
 refine F.ok sc_q18 (fun vs H Q E h=>?_) (fun cdv A outer s H vs Q E hr h=>?_)
 ·obtain ⟨d,e,k,b,ρ,ns,ms,lv,rfl,_⟩:=h
  rfl
 obtain ⟨d,e,k,b,ρ,ns,ms,lv,rfl,hd,de,R,M,hk,hn,q⟩:=h;have hun2:=hunT hr;refine ⟨_,Qc (Qr (pt_cmp (pc_dnotin (by show A.units+3+1 < cLine; omega) (pv 2) (pv 1))) (Qc (ps_set (i:=3) sc_q18.nd rfl (.inl rfl) (pe_tup (Qa (pe_tup (Qa (pe_tup Qb) (Qa Qg Qb))) Qb)))
  (Qc (ps_for PassesOwn.never rfl (pi_list (Qm Ql (pe_dget (by show A.units+3+1 < cLine; omega) (pv 0) (pv 2) (fun _ _=>rfl)) Qg (fun _ _=>rfl))) (pg_tup rfl (Qi (pg_name (i:=4) sc_q18.nd rfl (.inl rfl)) (Qi (pg_name (i:=5) sc_q18.nd rfl (.inl rfl)) pgs_nil)))
   (Qc (ps_set (i:=6) sc_q18.nd rfl (.inl rfl) (z00 G_q6 (hr.mono (by omega)) rfl (Qa (z00 G_q20 (hr.mono (by omega)) rfl (Qa (pv 0) (Qa (pv 1) (Qa (pv 4) Qb)))) (Qa (z00 G_q20 (hr.mono (by omega)) rfl (Qa (pv 0) (Qa (pv 1) (Qa (pv 5) Qb)))) Qb))))
  (Qe (Qr (Qo (z00 G_q15 (hr.mono (by omega)) rfl (Qa (pv 3) (Qa (pv 6) Qb)))) (Qe (ps_set (i:=3) sc_q18.nd rfl (.inl rfl) (pv 6))) pss_nil))))
  (Qe (ps_dput (by show A.units+3+1 < cLine; omega) (pv 1) (pv 2) (pv 3) rfl)))) pss_nil)
  (Qe (Qj (pe_dget (by show A.units+3+1 < cLine; omega) (pv 1) (pv 2) (fun _ _=>rfl)))),?_⟩
 have n8:=R.len;by_cases hm:k ∈ ms
 ·obtain ⟨u,hu,hul⟩:=M.at_.val hm;refine ⟨_,rfl,_,rfl,e,_,rfl,hu,_,rfl,iteF ?_⟩;exact ⟨_,rfl,_,rfl,e,u,rfl,hu,q u H ms SB.refl M (fun m h=>.inl h) hul⟩
 obtain ⟨kd,eg⟩:=R.get k hk;have few:=R.few k hk kd eg;refine ⟨_,rfl,_,rfl,e,_,rfl,M.at_.none hm,_,rfl,iteT ?_⟩;refine seqI (asgI (z6s (K:=K) fun x1 H1 s1 hx1=>?_));refine z02 ?_;have hd1:=hd.sb0 s1;have M1:=M.sb0 s1;obtain ⟨v,hv,t,l,zs,rfl,ht,hl,hb⟩:=hd1.val eg;have zl:=hb.length;have le:l ≠ e:=fun z=>by
  obtain ⟨kvs,h⟩:=M1.isD;rw [z,h] at hl; cases hl
 have nE:∀ H2,SB [e] H1 H2->DkL K H2 d b:=fun H2 s2=>hd1.sb s2 (by simpa using de) (by obtain ⟨kvs,h⟩:=M1.isD; exact NoL.one h);refine ⟨_,rfl,_,rfl,d,_,rfl,hv,t,_,_,_,rfl,rfl,ht,atI_nat (j:=1) rfl,l,rfl,⟨zs,SqL.of hl⟩,?_⟩;refine for_it (walk_list (xs:=zs)) (fun i σ H2=>SB [e] H1 H2/\∃ (f:V) (ms2:List Str) (o4 o5 o6:Option V),σ=[some (.ref d),some (.ref e),some (.str k),some f,o4,o5,o6]/\Memo K H2 e ρ ns ms2/\(∀ m ∈ ms2,m ∈ ms\/lv m < lv k)/\LA K H2 f (Lad.maxL Lad.uno ((kd.rs.take i).map (clm b ρ))))
  ⟨SB.refl,x1,ms,none,none,none,rfl,M1,fun m h=>.inl h,hx1⟩ (fun i σ H2 hi h=>h.1.sqL (by simpa using le) (SqL.of hl)) (fun i x σ H2' H2 hi h y=>?_) (fun σ H2 h=>?_)
 ·obtain ⟨s2,f,ms2,o4,o5,o6,rfl,M2,hms,hf⟩:=h;obtain ⟨rfl,ey⟩:=y;obtain ⟨r,er,hrd⟩:=hb.get ey;have rm:=Qu er;obtain ⟨⟨f1,g1⟩,f2,g2⟩:=R.rl k hk kd eg r rm;obtain ⟨rok,rn1,rn2⟩:=R.nm k hk kd eg r rm;have dwn:=R.down k hk kd eg r rm;have rp:=rok.2.2;have rd1:=z07 r.1;have rd2:=z07 r.2;cases z0a s2 _ _ (Ru.noList_enc _) hrd with
  | @tup ad us' _ hs' hda =>
  cases hda with
  | cons hg1 hda =>
  cases hda with
  | cons hg2 hda =>
  cases hda;have hg1:GA K _ _ r.1:=hg1;have hg2:GA K _ _ r.2:=hg2;refine ⟨ad,_,rfl,hs',rfl,_,_,rfl,_,_,rfl,rfl,?_⟩;refine ⟨_,rfl,_,rfl,_,rfl,d,e,_,b,ρ,ns,ms2,lv,r.1,1000000001,lv k,rfl,nE _ s2,de,R,M2,⟨hg1,rok.1,f1,by omega,by omega⟩,fun x hx=>dwn x (List.mem_append.mpr (.inl hx)),by omega,fun x2 H3 ms3 s3 M3 h3 hx2=>?_⟩;refine ⟨_,rfl,_,rfl,_,rfl,d,e,_,b,ρ,ns,ms3,lv,r.2,1000000001,lv k,rfl,nE _ (s2.trans s3),de,R,M3,⟨hg2.sb s3,rok.2.1,f2,by omega,by omega⟩,fun x hx=>dwn x (List.mem_append.mpr (.inr hx)),by omega,fun x3 H4 ms4 s4 M4 h4 hx3=>?_⟩;have R1:=Gr.G_R (b:=b) R.toGoods rok.1 rn1;have R2:=Gr.G_R (b:=b) R.toGoods rok.2.1 rn2;have d1:=g1.deep;have d2:=g2.deep;have p1:=g1.parts;have p2:=g2.parts;refine ⟨x2,x3,_,_,rfl,hx2.sb s4,hx3,R1,R2,by omega,by omega,by omega,by omega,fun x4 H5 s5 hx4=>?_⟩;refine z02 ?_;have s34:=(s3.trans s4).trans s5.nil;have mem:∀ m ∈ ms4,m ∈ ms\/lv m < lv k:=fun m hm4=>by
   rcases h4 m hm4 with z | z
   ·rcases h3 m z with z | z
    ·exact hms m z
    ·exact .inr z
   ·exact .inr z
  have dm:(Lad.maxL Lad.uno ((kd.rs.take i).map (clm b ρ))).deep<=30:=by
   rcases Qv (Lad.maxL_mem ((kd.rs.take i).map (clm b ρ)) Lad.uno) with z | z
   ·rw [z]; decide
   ·obtain ⟨r',hr',e'⟩:=Qx z;rw [<- e'];obtain ⟨⟨_,g1⟩,_,g2⟩:=R.rl k hk kd eg r' (List.mem_of_mem_take hr');exact Lad.abv_deep (n:=30) g1.deep g2.deep (by decide)
  have da:((Gr.rk b ρ r.1).abv (Gr.rk b ρ r.2)).deep<=30:=Lad.abv_deep (n:=30) g1.deep g2.deep (by decide);have step:Lad.maxL Lad.uno ((kd.rs.take (i+1)).map (clm b ρ))=if (Lad.maxL Lad.uno ((kd.rs.take i).map (clm b ρ))).lt (clm b ρ r)=true then clm b ρ r else Lad.maxL Lad.uno ((kd.rs.take i).map (clm b ρ)):=by
   rw [Yg,er,Yj];exact Lad.maxL_snoc _ _ _
  refine ⟨_,rfl,_,rfl,f,x4,_,_,rfl,hf.sb s34,hx4,by omega,by omega,by omega,fun H6 s6=>⟨_,rfl,?_⟩⟩;have s26:=(s2.trans s34).trans s6.nil;by_cases hlt:(Lad.maxL Lad.uno ((kd.rs.take i).map (clm b ρ))).lt (clm b ρ r)=true
  ·have hlt':(Lad.maxL Lad.uno ((kd.rs.take i).map (clm b ρ))).lt ((Gr.rk b ρ r.1).abv (Gr.rk b ρ r.2))=true:=hlt;rw [hlt'];refine iteT ⟨_,rfl,z02 ?_⟩;refine ⟨s26,x4,ms4,_,_,_,rfl,(M4.sb0 s5).sb0 s6,mem,?_⟩;rw [step,if_pos hlt];exact hx4.sb s6
  ·have hlt':(Lad.maxL Lad.uno ((kd.rs.take i).map (clm b ρ))).lt ((Gr.rk b ρ r.1).abv (Gr.rk b ρ r.2))=false:=by
    have z:=hlt;rw [Bool.not_eq_true] at z;exact z
   rw [hlt'];refine iteF ?_;refine ⟨s26,f,ms4,_,_,_,rfl,(M4.sb0 s5).sb0 s6,mem,?_⟩;rw [step,if_neg hlt];exact (hf.sb s34).sb s6
 ·obtain ⟨s2,f,ms2,o4,o5,o6,rfl,M2,hms,hf⟩:=h;rw [zl,Yh,<- R.own k hk kd eg] at hf;have hm2:k ∉ ms2:=fun z=>by
   rcases hms k z with h | h
   ·exact hm h
   ·omega
  obtain ⟨H3,hput,s3,M3⟩:=M2.put n8 hk hm2 hf;refine ⟨_,rfl,_,rfl,_,rfl,e,H3,rfl,hput,?_⟩;obtain ⟨u,hu,hul⟩:=M3.at_.val (n:=k) (by simp);refine ⟨_,rfl,_,rfl,e,u,rfl,hu,q u H3 _ ((s1.nil.trans s2).trans s3) M3 (fun m h=>?_) hul⟩;rcases Qw h with z | z
  ·rcases hms m z with z | z
   ·exact .inl z
   ·exact .inr (by omega)
  ·rw [Qy z]; exact .inr (Yc _)
end
theorem z8u {b:Bk} {ρ:Str->Lad} (qs:List (Tr × Int)) (p:Tr × Int) (x:Lad):Lad.S (Gr.rk b ρ (Gr.ofPs (qs++[p]))) x=Lad.S (Gr.rk b ρ (Gr.ofPs qs)) x+Lad.S (Lad.tms (Gr.rkt b ρ p.1) p.2) x:=by
 rw [Gr.rk_ps,Gr.rk_ps,Gr.ps_ofPs,Gr.ps_ofPs,Gr.S_bths,Gr.S_bths,Yj,Yj,List.sum_append];simp
section
variable {P:Program} {w:World} {K:Qn} {mg:Str->Option Value} {base:Heap} {f:Addr} {fd:FuncData}
abbrev zcw:List Str:=["_law_book","_law_known","_law_grove","_law_found","_law_kind","_law_inner","_law_many","_law_here","_law_held","_law_power","_law_so"]
theorem sc_q20:FnScope zcw ["_law_book","_law_known","_law_grove"] (defScope z44):=⟨rfl,rfl,rfl,by decide +kernel,rfl,by decide +kernel,by decide +kernel⟩
theorem zfd {n:Nat} (B:BI mg) (G_q18:Got P w K mg base "_law_own" ["_law_book","_law_known","_law_name"] (n+43) (z5e K n)) (G_q20:Got P w K mg base "_law_rank" ["_law_book","_law_known","_law_grove"] (n+43) (z29 K n)) (G_q7:Got P w K mg base "_law_behind" ["_law_one","_law_other"] (41) (z3c K)) (G_q8:Got P w K mg base "_law_both" ["_law_one","_law_other"] (41) (z6u K)) (F:Fun K "_law_rank" "_law_rank" z44 f fd):FnOk P w K mg base CX0 (n+44) f fd ["_law_book","_law_known","_law_grove"] (z29 K (n+1)):=by
 refine F.ok sc_q20 (fun vs H Q E h=>?_) (fun cdv A outer s H vs Q E hr h=>?_)
 ·obtain ⟨d,e,u,b,ρ,ns,ms,lv,g,C,c,rfl,_⟩:=h
  rfl
 obtain ⟨d,e,u,b,ρ,ns,ms,lv,g,C,c,rfl,hd,de,R,M,⟨hg,gok,fit,gd,gp⟩,low,hn,q⟩:=h;have hun2:=hunT hr;refine ⟨_,Qc (ps_set (i:=3) sc_q20.nd rfl (.inl rfl) (pe_tup Qb))
  (Qc (ps_for PassesOwn.never rfl (pi_tup (pv 2)) (pg_tup rfl (Qi (pg_tup rfl (Qi (pg_name (i:=4) sc_q20.nd rfl (.inl rfl)) (Qi (pg_name (i:=5) sc_q20.nd rfl (.inl rfl)) pgs_nil))) (Qi (pg_name (i:=6) sc_q20.nd rfl (.inr rfl)) pgs_nil)))
   (Qc (ps_set (i:=7) sc_q20.nd rfl (.inl rfl) (z00 G_q18 (hr.mono (by omega)) rfl (Qa (pv 0) (Qa (pv 1) (Qa (pv 4) Qb)))))
  (Qc (ps_set (i:=8) sc_q20.nd rfl (.inl rfl) (z00 G_q20 (hr.mono (by omega)) rfl (Qa (pv 0) (Qa (pv 1) (Qa (pv 5) Qb)))))
  (Qc (Qr (PW.pt (pw_and (pt_cmpR (op_neD (by show A.units+3+64 < cLine; omega)) (pv 8) (pe_tup Qb) (nomark _)) (pw_and1 (Qo (Qm Ql (pe_dget (by show A.units+3+1 < cLine; omega) (pv 0) (pv 4) (fun _ _=>rfl)) Qg (fun _ _=>rfl)))))) (Qe (ps_set (i:=7) sc_q20.nd rfl (.inl rfl) (pe_tup (Qa (pe_tup (Qa (z00 G_q7 (hr.mono (by omega)) rfl (Qa (Qm Ql (Qm Ql (pv 7) Qg (fun _ _=>rfl)) Qg (fun _ _=>rfl)) (Qa (pv 8) Qb))) (Qa Qg Qb))) Qb)))) (Qe (ps_set (i:=7) sc_q20.nd rfl (.inl rfl) (z00 G_q7 (hr.mono (by omega)) rfl (Qa (pv 7) (Qa (pv 8) Qb))))))
  (Qe (ps_set (i:=3) sc_q20.nd rfl (.inl rfl) (z00 G_q8 (hr.mono (by omega)) rfl (Qa (pv 3) (Qa (pe_callTy call_tuple_of rfl B.tuple boot_tuple (Qa (pe_lc (own:=[("_law_power",9),("_law_so",10)]) (g:=(gTup K 2 (gCons (gName 9) (gCons (gName 10) gNil)))) (tt:=tYes) (te:=(tTup (tCons (tVar 9) (tCons (tOp (rI CMulW fun i j=>.int (i*j)) (tVar 10) (tVar 6)) tNil)))) rfl sc_q20.nd (pi_tup (pv 7)) (blkOk_by (N:=zcw) (sc:=defScope z44) (by decide +kernel)) (fun _ _ _ _ _=>(pg_tup rfl (Qi (pg_name (i:=9) sc_q20.nd rfl (.inl rfl)) (Qi (pg_name (i:=10) sc_q20.nd rfl (.inl rfl)) pgs_nil)))) (fun _ _ _ _ _=>pts_nil) (fun _ _ _ _ _=>(pe_tup (Qa (pv 9) (Qa (pe_op op_mulW (pv 10) (pv 6)) Qb))))) Qb)) Qb)))))))))
  (Qe (Qj (pv 3)))),?_⟩
 have szl:=sizeLine_eq;have n8:=R.len;obtain ⟨a,xs,rfl,hs,hb⟩:=z0u hg;have xl:=hb.length;have gnm:=fit.named;refine ⟨by show 0<=sizeLine; decide,fun z nz=>?_⟩;have t1:=SB.new (ps:=[]) nz (.tup []);have hz1:LA K (upd H z (.tup [])) (.ref z) .nil:=z10 (SqT.of Qt);generalize upd H z (.tup [])=H1 at t1 hz1;have nE:∀ H2,SB [e] H H2->DkL K H2 d b:=fun H2 s2=>hd.sb s2 (by simpa using de) (by obtain ⟨kvs,h⟩:=M.isD; exact NoL.one h);have tk:∀ i,(Gr.ofPs (g.ps.take i)).Ok C/\Gr.Named ns (Gr.ofPs (g.ps.take i)):=fun i=>by
  obtain ⟨h1,h2⟩:=Gr.ok_iff.mp gok;refine ⟨Gr.ok_ps.mpr ⟨fun p hp=>h1 p (List.mem_of_mem_take hp),h2.sublist (List.take_sublist _ _)⟩,Gr.named_iff.mpr fun p hp=>?_⟩;rw [Gr.ps_ofPs] at hp;exact Gr.named_iff.mp gnm p (List.mem_of_mem_take hp)
 have Rtk:∀ i,Lad.R (Gr.rk b ρ (Gr.ofPs (g.ps.take i))):=fun i=>Gr.G_R (b:=b) R.toGoods (tk i).1 (tk i).2;have sm:=fit.sum;have ptk:∀ i,(Gr.rk b ρ (Gr.ofPs (g.ps.take i))).parts<=900000:=fun i=>by
  rw [Gr.rk_ps,Gr.ps_ofPs];refine Yb (Lad.bths_parts _) (Yb ?_ sm);rw [Gr.rkT_ps,List.map_map,List.map_map];have e1:g.ps=g.ps.take i++g.ps.drop i:=(List.take_append_drop i g.ps).symm
  conv=>rhs; rw [e1,Yj,List.sum_append]
  omega
 have dtk:∀ i,(Gr.rk b ρ (Gr.ofPs (g.ps.take i))).deep<=30:=fun i=>by
  rw [Gr.rk_ps,Gr.ps_ofPs];refine Lad.bths_deep fun l hl=>?_;obtain ⟨p,hp,rfl⟩:=Qx hl;exact Lad.tms_deep _ (fit.at p (List.mem_of_mem_take hp)).1.2.2.2.2.2.1.deep
 refine z02 ?_;refine ⟨_,rfl,a,rfl,⟨xs,t1.sqT hs⟩,?_⟩;refine for_it (walk_tup (xs:=xs)) (fun i σ H2=>SB [e] H H2/\∃ (f:V) (ms2:List Str) (o4 o5 o6 o7 o8 o9 o10:Option V),σ=[some (.ref d),some (.ref e),some (.ref a),some f,o4,o5,o6,o7,o8,o9,o10]/\Memo K H2 e ρ ns ms2/\(∀ m ∈ ms2,m ∈ ms\/lv m < c)/\LA K H2 f (Gr.rk b ρ (Gr.ofPs (g.ps.take i))))
  ⟨t1.nil,_,ms,none,none,none,none,none,none,none,rfl,M.sb0 t1,fun m h=>.inl h,by rw [List.take_zero,show Gr.ofPs []=.nil from rfl,Gr.rk_nil]; exact hz1⟩ (fun i σ H2 hi h=>h.1.sqT hs) (fun i x σ H2' H2 hi h y=>?_) (fun σ H2 h=>?_)
 ·obtain ⟨s2,f,ms2,o4,o5,o6,o7,o8,o9,o10,rfl,M2,hms,hf⟩:=h;obtain ⟨rfl,ey⟩:=y;obtain ⟨p,ep,hpd⟩:=hb.get ey;have pm:=Qu ep;have pd:=g.mem_deep p pm;have pp:=g.mem_parts p pm;obtain ⟨n1,o1,m1,m2⟩:=Gr.ok_mem gok pm;obtain ⟨⟨f1,f2,f3,f4,f5,f6,f7,f8⟩,f9⟩:=fit.at p pm;obtain ⟨k1,k2⟩:=Gr.named_iff.mp gnm p pm;obtain ⟨ad,td,ux,rfl,hs2,hs3,hga,htd⟩:=z0h hpd;have lk:=low p (Gr.mem_within pm);refine ⟨ad,_,rfl,s2.sqT hs2,rfl,_,_,rfl,td,_,rfl,s2.sqT hs3,rfl,_,_,rfl,_,_,rfl,rfl,_,_,rfl,rfl,?_⟩;refine ⟨_,rfl,_,rfl,_,rfl,d,e,p.1.1,b,ρ,ns,ms2,lv,rfl,nE _ s2,de,R,M2,k1,by omega,fun x1 H3 ms3 s3 M3 h3 hx1=>?_⟩;refine z02 ?_;have s23:=s2.trans s3;refine ⟨_,rfl,_,rfl,_,rfl,d,e,ux,b,ρ,ns,ms3,lv,p.1.2,C,c,rfl,nE _ s23,de,R,M3,⟨GA.sb hga s23,o1,f9,by omega,by omega⟩,fun x hx=>low x (Gr.within_sub pm hx),by omega,fun x2 H4 ms4 s4 M4 h4 hx2=>?_⟩;refine z02 ?_;have s24:=s23.trans s4;have mem:∀ m ∈ ms4,m ∈ ms\/lv m < c:=fun m hm4=>by
   rcases h4 m hm4 with z | z
   ·rcases h3 m z with z | z
    ·exact hms m z
    ·exact .inr (by omega)
   ·exact .inr z
  have hx1':=hx1.sb s4;obtain ⟨kd,eg⟩:=R.get p.1.1 k1;have hwd:b.wide p.1.1=kd.w:=Bk.wide_get eg;refine z15 (fun σ' G=>∃ x3:V,σ'=[some (.ref d),some (.ref e),some (.ref a),some f,some (.str p.1.1),some ux,some (.int p.2),some x3,some x2,o9,o10]/\SB [] H4 G/\LA K G x3 (Gr.rkt b ρ p.1)) (fun nx hnx=>?_) (fun σ' G h=>?_)
  ·refine ⟨_,rfl,by show 0<=sizeLine; decide,fun z5 nz5=>?_⟩;have t5:=SB.new (ps:=[]) nz5 (.tup []);have hz5:LA K (upd H4 z5 (.tup [])) (.ref z5) .nil:=z10 (SqT.of Qt);generalize upd H4 z5 (.tup [])=H5 at t5 hz5;refine ⟨(Gr.rk b ρ p.1.2).enc,Lad.enc .nil,LA.sb hx2 t5,hz5,Lad.shaped_enc (Yb f5.deep (by decide)),Lad.shaped_enc (by decide),_,rfl,?_⟩;rw [Lad.eqv_enc];by_cases h0:Gr.rk b ρ p.1.2=.nil
   ·rw [Ya h0];refine iteF ?_;refine ⟨_,rfl,_,rfl,x1,x2,ρ p.1.1,Gr.rk b ρ p.1.2,rfl,hx1'.sb t5,hx2.sb t5,Yb f4.deep (by decide),Yb f5.deep (by decide),Yb f4.parts (by decide),Yb f5.parts (by decide),fun x3 H6 s6 hx3=>?_⟩;refine z02 ?_;refine hnx _ _ ⟨x3,rfl,t5.trans s6,?_⟩;have:Gr.rkt b ρ p.1=(ρ p.1.1).bhd (Gr.rk b ρ p.1.2):=by
     show lad _ _ _=_;rw [show Gr.rk b ρ p.1.2=.nil from h0,Lad.bhd_nil];exact Lad.lad_nil f3
    rw [this]; exact hx3
   ·rw [Qz h0];refine iteT ?_;obtain ⟨vv,hvv,t,l,zs,rfl,ht,hl,hbb⟩:=(nE _ (s24.trans t5.nil)).val eg;refine ⟨_,rfl,_,rfl,d,_,rfl,hvv,t,_,_,_,rfl,rfl,ht,atI_nat (j:=0) rfl,_,rfl,?_⟩;cases hk:kd.w with
    | false =>
     refine iteF ?_;refine ⟨_,rfl,_,rfl,x1,x2,ρ p.1.1,Gr.rk b ρ p.1.2,rfl,hx1'.sb t5,hx2.sb t5,Yb f4.deep (by decide),Yb f5.deep (by decide),Yb f4.parts (by decide),Yb f5.parts (by decide),fun x3 H6 s6 hx3=>?_⟩;refine z02 ?_;refine hnx _ _ ⟨x3,rfl,t5.trans s6,?_⟩;have:Gr.rkt b ρ p.1=(ρ p.1.1).bhd (Gr.rk b ρ p.1.2):=by
      show lad _ _ _=_;unfold lad;rw [hwd,hk]; rfl
     rw [this]; exact hx3
    | true =>
     refine iteT ?_;have fd:=f4.deep;have fp:=f4.parts;have fl:Gr.rkt b ρ p.1=Lad.spd (ρ p.1.1) (Gr.rk b ρ p.1.2):=by
      show lad _ _ _=_;unfold lad;rw [hwd,hk]; rfl
     cases ho:ρ p.1.1 with
     | nil=>exact absurd ho f3
     | cons e0 m0 r0 =>
     rw [ho] at hx1' fd fp fl;rw [Lad.spd_cons h0] at fl;obtain ⟨ha,hxs,rfl,hsx,hbx⟩:=z05 (hx1'.sb t5);rw [show (Lad.cons e0 m0 r0).ps=(e0,m0)::r0.ps from rfl] at hbx;cases hbx with
     | @cons y0 yr _ _ hh0 hbr =>
     obtain ⟨cc,ue,rfl,hsc,hle⟩:=z0b hh0;have ed:e0.deep < (Lad.cons e0 m0 r0).deep:=Lad.mem_deep (.cons e0 m0 r0) (e0,m0) (mcs ..);have ept:e0.parts<=(Lad.cons e0 m0 r0).parts:=by show e0.parts<=1+e0.parts+r0.parts; omega
     refine ⟨_,rfl,ha,_,_,.ref cc,rfl,rfl,hsx,atI_nat (j:=0) rfl,cc,_,_,ue,rfl,rfl,hsc,atI_nat (j:=0) rfl,_,rfl,ue,x2,e0,Gr.rk b ρ p.1.2,rfl,hle,hx2.sb t5,by omega,Yb f5.deep (by decide),by omega,Yb f5.parts (by decide),fun x3 H6 s6 hx3=>?_⟩;refine ⟨by show 2<=sizeLine; decide,fun t8 nt8=>?_⟩;have s8:=SB.new (ps:=[]) nt8 (.tup [x3,.int 1]);have ht8:upd H6 t8 (.tup [x3,.int 1]) t8=some (.tup [x3,.int 1]):=Qt;generalize upd H6 t8 (.tup [x3,.int 1])=H8 at s8 ht8;refine ⟨by show 1<=sizeLine; decide,fun t9 nt9=>?_⟩;have s9:=SB.new (ps:=[]) nt9 (.tup [.ref t8]);refine z02 ?_;refine hnx _ _ ⟨.ref t9,rfl,((t5.trans s6).trans s8).trans s9,?_⟩;rw [fl];exact z3j (SqT.of Qt) (s9.sqT (SqT.of ht8)) (LA.sb hx3 (s8.trans s9))
  ·obtain ⟨x3,rfl,s5,hx3⟩:=h;have s25:=s24.trans s5.nil;obtain ⟨ha,hxs,rfl,hsx,hbx⟩:=z05 hx3;have hl':=hbx.length;have lp:=(Gr.rkt b ρ p.1).len_parts;rw [<- Lad.ps_length] at lp;have fp:=f6.parts;refine ⟨_,rfl,_,rfl,ha,rfl,⟨hxs,hsx⟩,fun D nD=>?_⟩;refine z0i (walk_tup (xs:=hxs)) nD (by omega) (fun j ws H6=>Bears K H6 Lad.pEnc ws (((Gr.rkt b ρ p.1).ps.take j).map fun q:Lad × Int=>(q.1,q.2*p.2))) .nil (fun H6 s6=>s6.sqT hsx) (fun _ _ _ _ s h=>h.sb s Lad.pEnc_noList) (fun Pv j y Hq H6 ws hj s6 yy hR hu6 fin skip=>?_) (fun ws H6 s6 hD6 hR hu6=>?_)
   ·obtain ⟨rfl,ey2⟩:=yy;obtain ⟨r,er,hrd⟩:=hbx.get ey2;have rm:=Qu er;obtain ⟨ar,ur,rfl,hsr,hlr⟩:=z0b hrd;obtain ⟨num0,num1⟩:=f6.num r rm;have cm:CMulW r.2 p.2:=by
     have e1:=z61 (x:=r.2) (a:=400000) (b:=400000) (Gr.natAbs_lt num0 num1) (Yc _) (by decide);have e2:=z61 (x:=p.2) (a:=400000) (b:=400000) (Gr.natAbs_lt f7 f8) (Yc _) (by decide);unfold CMulW;omega
    refine ⟨ar,_,rfl,s6.sqT hsr,rfl,_,_,rfl,_,_,rfl,rfl,rfl,?_⟩;refine ⟨_,rfl,_,rfl,_,rfl,_,_,rfl,rfl,cm,by show 2<=sizeLine; decide,fun T nT=>?_⟩;have t7:=SB.new (ps:=[]) nT (.tup [ur,.int (r.2*p.2)]);refine fin _ _ t7 ?_;rw [Yg,er,Yj];exact (hR.sb t7 Lad.pEnc_noList).append (.cons (Dp.tup (SqT.of Qt) (.cons ((LA.sb hlr s6).sb t7) (.cons (.int _) .nil))) .nil)
   ·rw [hl',Yh] at hR;refine ⟨D,ws,rfl,.inl ⟨SqL.of hD6,fun kt hkt=>?_⟩⟩;have t7:=SB.new (ps:=[]) hkt (.tup ws);have hkt7:LA K (upd H6 kt (.tup ws)) (.ref kt) (Lad.tms (Gr.rkt b ρ p.1) p.2):=by
     have z:=z0q (SqT.of Qt) (hR.sb t7 Lad.pEnc_noList);have:Lad.tms (Gr.rkt b ρ p.1) p.2=Lad.ofPs ((Gr.rkt b ρ p.1).ps.map fun q:Lad × Int=>(q.1,q.2*p.2)):=by
      unfold Lad.tms;rw [if_neg (by omega)]
     rw [this]; exact z
    generalize upd H6 kt (.tup ws)=H7 at t7 hkt7;have s57:=s6.trans t7;have pt:=Lad.tms_parts (Gr.rkt b ρ p.1) p.2;have dt:=Lad.tms_deep (n:=30) p.2 f6.deep;have pi:=ptk i;have di:=dtk i;refine ⟨f,.ref kt,_,_,rfl,((hf.sb (s3.trans s4)).sb s5).sb s57,hkt7,by omega,by omega,by omega,by omega,fun x4 H8 s8 hx4=>?_⟩;refine z02 ?_;refine ⟨(s25.trans s57.nil).trans s8.nil,x4,ms4,_,_,_,_,_,_,_,rfl,((M4.sb0 s5).sb0 s57).sb0 s8,mem,?_⟩;have Rt:Lad.R (Gr.rkt b ρ p.1):=Gr.rkt_R R.toGoods k1 o1 k2;rw [Lad.mrg_bth (Rtk i) (Rt.tms (by omega))] at hx4;have e1:Gr.rk b ρ (Gr.ofPs (g.ps.take (i+1)))=(Gr.rk b ρ (Gr.ofPs (g.ps.take i))).bth (Lad.tms (Gr.rkt b ρ p.1) p.2):=by
     refine Lad.R.ext (Rtk (i+1)) ((Rtk i).bth (Rt.tms (by omega))) fun x=>?_;rw [Lad.S_bth,Yg,ep];exact z8u _ _ x
    rw [e1]; exact hx4
 ·obtain ⟨s2,f,ms2,o4,o5,o6,o7,o8,o9,o10,rfl,M2,hms,hf⟩:=h;rw [xl,Yh,Gr.ofPs_ps] at hf;exact ⟨_,rfl,q f H2 ms2 s2 M2 hms hf⟩
abbrev zdn:List Str:=["_law_pairs","_law_found","_law_tree","_law_many"]
theorem sc_law_grove_of:FnScope zdn ["_law_pairs"] (defScope z5c):=⟨rfl,rfl,rfl,by decide +kernel,rfl,by decide +kernel,by decide +kernel⟩
theorem z6r (B:BI mg) (F:Fun K "_law_grove_of" "_law_grove_of" z5c f fd):FnOk P w K mg base CX0 1 f fd ["_law_pairs"] (z2o K):=by
 refine F.ok sc_law_grove_of (fun vs H Q E h=>?_) (fun cdv A outer s H vs Q E hr h=>?_)
 ·obtain ⟨a,xs,bs,rfl,_⟩:=h
  rfl
 obtain ⟨a,xs,as,rfl,hs,hba,hl,⟨C,ho⟩,q⟩:=h;have hun2:=hunT hr;refine ⟨_,Qc (ps_set (i:=1) sc_law_grove_of.nd rfl (.inl rfl) (pe_lst Qb))
  (Qc (ps_for PassesOwn.never rfl (pi_list (Qs (z9v Gr.pEnc (by show A.units+3+110 < cLine; omega)) rfl B.sorted (by decide +kernel) (Qa (pv 0) Qb))) (pg_tup rfl (Qi (pg_name (i:=2) sc_law_grove_of.nd rfl (.inl rfl)) (Qi (pg_name (i:=3) sc_law_grove_of.nd rfl (.inl rfl)) pgs_nil)))
   (Qc (Qr (PW.pt (pw_and (pt_cmpR (op_neD (by show A.units+3+64 < cLine; omega)) (pv 1) (pe_lst Qb) (nomark _)) (pw_and1 (pt_cmpR (op_eqD (by show A.units+3+64 < cLine; omega)) (Qm Ql (Qm ix_list (pv 1) (pe_un un_neg Qg) (fun _ _=>rfl)) Qg (fun _ _=>rfl)) (pv 2) (nomark _)))))
    (Qe (ps_set (i:=3) sc_law_grove_of.nd rfl (.inl rfl) (pe_op op_add (pv 3) (Qm Ql (pe_bm0 PySem.F.plainAttrs_list PySem.F.slot_list_pop PySem.F.type_list_pop mt_pop (pv 1)) Qg (fun _ _=>rfl))))) pss_nil)
   (Qe (ps_expr (pe_bm PySem.F.plainAttrs_list PySem.F.slot_list_append PySem.F.type_list_append mt_append (pv 1) (Qa (pe_tup (Qa (pv 2) (Qa (pv 3) Qb))) Qb))))))
  (Qe (Qj (pe_callTy call_tuple_of rfl B.tuple boot_tuple (Qa (pv 1) Qb))))),?_⟩
 refine ⟨(by show 0<=sizeLine; decide),fun D hD=>?_⟩;have t0:=SB.new (ps:=[]) hD (.lst []);have hD0:(upd H D (.lst [])) D=some (.lst []):=Qt;generalize hH0:upd H D (.lst [])=H0 at t0 hD0;have hs0:SqL K H0 a xs\/SqT K H0 a xs:=hs.imp (fun h=>t0.sqL nmn h) fun h=>t0.sqT h;refine ⟨_,rfl,a,_,as,rfl,hs0,hba.sb t0 Gr.noList_pEnc,Gr.pEnc_all _,Gr.pEnc_sortable _,by omega,fun p hp=>?_,fun p1 zs hp1 hz=>?_⟩
 ·have:=Gr.pEnc_depth p;have:=(ho p hp).2.2;omega
 have s1:=SB.new (ps:=[]) hp1 (.lst zs);have hz3:Bears K (upd H0 p1 (.lst zs)) Gr.pEnc zs (srtE Gr.pEnc as):=hz.sb s1 Gr.noList_pEnc;have hD3:=s1.keep _ _ hD0 nmn;have hl3:SqL K (upd H0 p1 (.lst zs)) p1 zs:=SqL.of Qt;have p1D:p1 ≠ D:=fun z=>by subst z; rw [hD0] at hp1; cases hp1
 generalize hH3:upd H0 p1 (.lst zs)=H3 at s1 hz3 hD3 hl3;clear hz;generalize hbs:srtE Gr.pEnc as=bs at hz3;have bok:∀ p ∈ bs,z03 p.1.1/\p.1.2.Ok C/\p.1.2.deep<=18:=by
  intro p hp;rw [<- hbs] at hp;exact ho p ((z18 as).mem_iff.mp hp)
 have blen:bs.length<=1000:=by rw [<- hbs,(z18 as).length_eq]; exact hl
 have zl:=hz3.length;refine ⟨p1,rfl,⟨zs,hl3⟩,?_⟩;refine for_list (K:=K) (a:=p1) (xs:=zs) (fun i σ H2=>SB [D] H3 H2/\∃ acc o2 o3,σ=[some (.ref a),some (.ref D),o2,o3]/\H2 D=some (.lst acc)/\Bears K H2 Gr.pEnc acc (jn (bs.take i))) ⟨SB.refl,[],none,none,rfl,hD3,.nil⟩ (fun i σ H2 hi h2=>h2.1.sqL (by simpa using p1D) hl3) (fun i x σ H2 hx h2=>?_) (fun σ H2 h2=>?_)
 ·obtain ⟨s2,acc,o2,o3,rfl,hD2,hb2⟩:=h2;obtain ⟨p,ep,hpd⟩:=hz3.get hx;have pm:=Qu ep;obtain ⟨ad,tx,ux,rfl,hsx,_,_,hdx⟩:=z0h hpd;have al:=hb2.length;have jl:=z7l (bs.take i);rw [List.length_take] at jl;rw [z9e bs i p ep];have hdx2:Dp K H2 (.ref tx) (Gr.tEnc p.1):=z0a s2 _ _ (Gr.noList_tEnc _) hdx;refine ⟨ad,_,rfl,s2.sqT hsx,rfl,_,_,rfl,_,_,rfl,rfl,?_⟩;refine ⟨_,rfl,(by show 0<=sizeLine; decide),fun e0 he0=>?_⟩;have t3:=SB.new (ps:=[D]) he0 (.lst []);have hD3:(upd H2 e0 (.lst [])) D=some (.lst acc):=by rw [upd_ne (ne_of_none hD2 he0)]; exact hD2
  have jd:∀ p ∈ jn (bs.take i),z03 p.1.1/\p.1.2.Ok C/\p.1.2.deep<=18:=by
   intro p hp;obtain ⟨q2,hq2,e2⟩:=z1h _ p hp;rw [<- e2]; exact bok q2 (List.mem_of_mem_take hq2)
  have hb3:=hb2.sb t3 Gr.noList_pEnc;have hdx3:=z0a t3 _ _ (Gr.noList_tEnc _) hdx2;have he0':(upd H2 e0 (.lst [])) e0=some (.lst []):=Qt;generalize hH4:upd H2 e0 (.lst [])=H4 at t3 hD3 hb3 hdx3 he0';refine ⟨.list ((jn (bs.take i)).map Gr.pEnc),.list [],Dp.lst (SqL.of hD3) hb3.dp,Dp.lst (SqL.of he0') .nil,Gr.shaped_rows ⟨C,jd⟩,by decide +kernel,_,rfl,?_⟩;have s24:=s2.trans t3;have app:∀ (us:List V) (js:List (Tr × Int)) (m:Int) (H5:Hp),SB [D] H4 H5->H5 D=some (.lst us)->Bears K H5 Gr.pEnc us js->us.length<=1000->z08 (jn (bs.take i)) p=js++[(p.1,m)] ->
    tDrop (tBM K "list" rAppend (tVar 1) (tCons (tTup (tCons (tVar 2) (tCons (tVar 3) tNil))) tNil)) { nx:=fun σ H2=>SB [D] H3 H2/\∃ acc o2 o3,σ=[some (.ref a),some (.ref D),o2,o3]/\H2 D=some (.lst acc)/\Bears K H2 Gr.pEnc acc (z08 (jn (bs.take i)) p),rt:=Q } [some (.ref a),some (.ref D),some (.ref tx),some (.int m)] H5:=by
   intro us js m H5 s5 hD5 hb5 hul e;rw [e];refine ⟨_,rfl,.inl ⟨rfl,_,SqL.of hD5⟩,_,rfl,_,rfl,(by show 2<=sizeLine; decide),fun t ht=>?_⟩;have t6:=SB.new (ps:=[D]) ht (.tup [.ref tx,.int m]);have hD6:(upd H5 t (.tup [.ref tx,.int m])) D=some (.lst us):=by rw [upd_ne (ne_of_none hD5 ht)]; exact hD5
   refine ⟨D,us,_,rfl,rfl,hD6,z0j (Yb hul (by decide)),?_⟩;have t7:=SB.set (ps:=[D]) hD6 (by simp) (.lst (us++[.ref t]));exact ⟨((s24.trans s5).trans t6).trans t7,_,_,_,rfl,Qt,Bears.append ((hb5.sb t6 Gr.noList_pEnc).sb t7 Gr.noList_pEnc) (.cons (Dp.tup (t7.sqT (SqT.of Qt)) (.cons (z0a ((s5.trans t6).trans t7) _ _ (Gr.noList_tEnc _) hdx3) (.cons (.int _) .nil))) .nil)⟩
  rcases List.eq_nil_or_concat (jn (bs.take i)) with he | ⟨js,z,he⟩
  ·rw [he] at hb3 app;rw [he];cases hb3;refine iteF (iteF ?_);exact app [] [] p.2 H4 SB.refl hD3 .nil (by simp) rfl
  ·rw [List.concat_eq_append] at he;rw [he] at hb3 app jd;rw [he];obtain ⟨us,u,rfl,hus,hu⟩:=hb3.snoc;obtain ⟨az,tz,uz,rfl,hsz,_,_,hdz⟩:=z0h hu;obtain ⟨zn,zo,zd⟩:=jd z (by simp);obtain ⟨pn,po,pd⟩:=bok p pm;have e0:(!PyData.eqv (.list ((js++[z]).map Gr.pEnc)) (.list []))=true:=by
    cases js <;> simp [PyData.eqv,PyData.eqvAll]
   rw [e0];refine iteT ?_;refine ⟨_,rfl,1,rfl,D,_,_,_,rfl,rfl,SqL.of hD3,z1t,az,_,_,_,rfl,rfl,hsz,atI_nat (j:=0) rfl,_,rfl,Gr.tEnc z.1,Gr.tEnc p.1,hdz,hdx3,Gr.shaped_tEnc zn zo (by omega),Gr.shaped_tEnc pn po (by omega),_,rfl,?_⟩;rw [Orderly.eq (enc:=Gr.tEnc)];have ul:us.length<=1000:=by rw [Yf] at al; omega
   by_cases hz:z.1=p.1
   ·rw [show decide (z.1=p.1)=true by simp [hz]];refine iteT ?_;refine ⟨_,rfl,_,rfl,.inl ⟨rfl,_,SqL.of hD3⟩,D,_,_,rfl,rfl,hD3,(by simp:(us++[V.ref az])[(us++[V.ref az]).length-1]?=some (V.ref az)),?_⟩;have ed:(us++[V.ref az]).dropLast=us:=by simp
    rw [ed];have t6:=SB.set (ps:=[D]) hD3 (by simp) (.lst us);refine ⟨az,_,_,_,rfl,rfl,t6.sqT hsz,atI_nat (j:=1) rfl,_,_,rfl,rfl,?_⟩;refine app us js (p.2+z.2) _ t6 Qt (hus.sb t6 Gr.noList_pEnc) ul ?_;rw [z0d,if_pos hz,Int.add_comm]
   ·rw [show decide (z.1=p.1)=false by simp [hz]];refine iteF ?_;refine app _ (js++[z]) p.2 H4 SB.refl hD3 hb3 (by rw [Yf,Yi] at al ⊢; omega) ?_;rw [z0d,if_neg hz]
 ·obtain ⟨s2,acc,o2,o3,rfl,hD2,hb2⟩:=h2;rw [zl,Yh] at hb2;refine ⟨_,rfl,D,acc,rfl,.inl ⟨SqL.of hD2,fun t ht=>?_⟩⟩;have t3:=SB.new (ps:=[]) ht (.tup acc);refine q _ _ ((((t0.trans s1).nil.trans s2).drop hD).trans t3) ?_;have e:Gr.tidy as=Gr.ofPs (jn bs):=by rw [<- hbs]; rfl
  rw [e];exact zbz (SqT.of Qt) (hb2.sb t3 Gr.noList_pEnc)
end
namespace Gr
theorem tidy_eq {bs:List (Tr × Int)} {g:Gr} {C D:Int} (h:∀ p ∈ bs,z03 p.1.1/\p.1.2.Ok C/\1<=p.2) (hg:g.Ok D) (hs:∀ x,sumE bs x=S g x):tidy bs=g:=by
 have hn:=z4g (bs:=bs) fun p hp=>by have:=(h p hp).2.2; omega
 have hc:C<=allE bs+1+(C.natAbs:Int):=by omega
 have o:(tidy bs).Ok (allE bs+1+(C.natAbs:Int)):=tidy_ok (C:=C) h (by omega) hc;refine ext o hg fun x=>?_;rw [<- hs x];show sumE (ofPs (tdy tEnc bs)).ps x=_;rw [ps_ofPs,z1w]
theorem sum_out {g:Gr} {j:Nat} {p:Tr × Int} (e:g.ps[j]?=some p) (x:Tr):sumE (g.ps.take j++g.ps.drop (j+1)) x=S g x-(if p.1=x then p.2 else 0):=by
 have e1:g.ps=g.ps.take j++p::g.ps.drop (j+1):=by
  obtain ⟨hj,ej⟩:=List.getElem?_eq_some_iff.mp e;rw [<- ej,<- List.drop_eq_getElem_cons hj,List.take_append_drop]
 show _=sumE g.ps x-_
 conv=>rhs; rw [e1]
 rw [z0g,z0g,z0f];omega
theorem sum_one_less {g:Gr} {C:Int} (ho:g.Ok C) {j:Nat} {p:Tr × Int} (e:g.ps[j]?=some p) (x:Tr):sumE (g.ps.take j++g.ps.drop (j+1)++(if 1 < p.2 then [(p.1,p.2-1)] else [])) x=S (wo g p.1 1) x:=by
 have pm:=Qu e;have h1:=(ok_mem ho pm).2.2.1;have sp:=S_mem ho pm;rw [z0g,sum_out e x,S_wo ho (by decide),sp];by_cases hx:x=p.1
 ·subst hx;rw [if_pos rfl,if_pos rfl,sp]
  split
  ·rw [z0f,if_pos rfl]; simp only [sumE]; omega
  ·simp only [sumE]; omega
 ·rw [if_neg (fun z=>hx z.symm),if_neg hx]
  split
  ·rw [z0f,if_neg (fun z=>hx z.symm)]; simp only [sumE]; omega
  ·simp only [sumE]; omega
end Gr
section
variable {P:Program} {w:World} {K:Qn} {mg:Str->Option Value} {base:Heap} {f:Addr} {fd:FuncData}
abbrev zcs:List Str:=["_law_book","_law_grove","_law_place","_law_rule","_law_number","_law_at","_law_tree","_law_many","_law_pairs","_law_spreads","_law_rules","_law_once","_law_each","_law_changed","_law_new","_law_so"]
theorem sc_q11:FnScope zcs ["_law_book","_law_grove","_law_place","_law_rule","_law_number"] (defScope z3o):=⟨rfl,rfl,rfl,by decide +kernel,rfl,by decide +kernel,by decide +kernel⟩
theorem zc3 {ps:List Str} {k:Nat}:FnOk P w K mg base CX0 k f fd ps (z1y K 0):=z0v fun vs H Q E ⟨_,_,_,_,_,_,_,_,_,_,_,_,_,_,_,_,_,_,_,_,_,_,h,_⟩=>by omega
theorem zfr {n:Nat} (B:BI mg) (G_q13:Got P w K mg base "_law_grove_of" ["_law_pairs"] (1) (z2o K)) (G_q11:Got P w K mg base "_law_fall" ["_law_book","_law_grove","_law_place","_law_rule","_law_number"] (n+1) (z1y K n)) (F:Fun K "_law_fall" "_law_fall" z3o f fd):FnOk P w K mg base CX0 (n+2) f fd ["_law_book","_law_grove","_law_place","_law_rule","_law_number"] (z1y K (n+1)):=by
 refine F.ok sc_q11 (fun vs H Q E h=>?_) (fun cdv A outer s H vs Q E hr h=>?_)
 ·obtain ⟨d,a,u,b,g,pl,k,kd,i,r,m,C,rfl,_⟩:=h
  rfl
 obtain ⟨d,a,u,b,g,pl,k,kd,i,r,m,C,rfl,hd,⟨ok,gn⟩,⟨hu,go,gd,gp⟩,hpl,hb,eg,er,m0,m1,hm,q⟩:=h;have hun2:=hunT hr;refine ⟨_,Qc (ps_set (i:=5) sc_q11.nd rfl (.inl rfl) (Qm Ql (pv 2) Qg (fun _ _=>rfl)))
  (Qc (ps_asg (Qm Ql (pv 1) (pv 5) (fun _ _=>rfl)) (pg_tup rfl (Qi (pg_name (i:=6) sc_q11.nd rfl (.inl rfl)) (Qi (pg_name (i:=7) sc_q11.nd rfl (.inl rfl)) pgs_nil))))
  (Qc (ps_set (i:=8) sc_q11.nd rfl (.inl rfl) (pe_callTy call_list_of rfl B.list boot_list (Qa (pe_op z0y (pe_slice z12 (pv 1) po_none (po_some (pv 5))) (pe_slice z12 (pv 1) (po_some (pe_op op_add (pv 5) Qg)) po_none)) Qb)))
  (Qc (Qr (pt_cmpR op_gt (pv 7) Qg (nomark _)) (Qe (ps_expr (pe_bm PySem.F.plainAttrs_list PySem.F.slot_list_append PySem.F.type_list_append mt_append (pv 8) (Qa (pe_tup (Qa (pv 6) (Qa (pe_op op_sub (pv 7) Qg) Qb))) Qb)))) pss_nil)
  (Qc (ps_asg (pe_dget (by show A.units+3+1 < cLine; omega) (pv 0) (Qm Ql (pv 6) Qg (fun _ _=>rfl)) (fun _ _=>rfl)) (pg_tup rfl (Qi (pg_name (i:=9) sc_q11.nd rfl (.inl rfl)) (Qi (pg_name (i:=10) sc_q11.nd rfl (.inl rfl)) pgs_nil))))
  (Qc (Qr (pt_cmpR op_eq (Qs call_len_seq rfl B.len PySem.boot_len (Qa (pv 2) Qb)) Qg (nomark _)) (Qc (ps_asg (Qm ix_list (pe_op op_cat (pe_lst (Qa (pe_tup (Qa (pe_tup Qb) (Qa (pe_tup Qb) Qb))) Qb)) (pv 10)) (pv 3) (fun _ _=>rfl)) (pg_tup rfl (Qi (pg_name (i:=11) sc_q11.nd rfl (.inl rfl)) (Qi (pg_name (i:=12) sc_q11.nd rfl (.inl rfl)) pgs_nil))))
  (Qc (ps_expr (pe_bm PySem.F.plainAttrs_list PySem.F.slot_list_extend PySem.F.type_list_extend za5 (pv 8) (Qa (pv 11) Qb)))
  (Qc (Qr (pt_cmpR op_gt (pv 4) Qg (nomark _)) (Qe (ps_expr (pe_bm PySem.F.plainAttrs_list PySem.F.slot_list_extend PySem.F.type_list_extend mt_extend (pv 8) (Qa (pe_lc (own:=[("_law_new",14),("_law_so",15)]) (g:=(gTup K 2 (gCons (gName 14) (gCons (gName 15) gNil)))) (tt:=tYes) (te:=(tTup (tCons (tVar 14) (tCons (tOp (rI CMulW fun i j=>.int (i*j)) (tVar 15) (tVar 4)) tNil)))) rfl sc_q11.nd (pi_tup (pv 12)) (blkOk_by (N:=zcs) (sc:=defScope z3o) (by decide +kernel)) (fun _ _ _ _ _=>(pg_tup rfl (Qi (pg_name (i:=14) sc_q11.nd rfl (.inl rfl)) (Qi (pg_name (i:=15) sc_q11.nd rfl (.inl rfl)) pgs_nil)))) (fun _ _ _ _ _=>pts_nil) (fun _ _ _ _ _=>(pe_tup (Qa (pv 14) (Qa (pe_op op_mulW (pv 15) (pv 4)) Qb))))) Qb)))) pss_nil)
  (Qe (Qj (z00 G_q13 (hr.mono (by omega)) rfl (Qa (pv 8) Qb))))))) pss_nil)
  (Qc (ps_set (i:=13) sc_q11.nd rfl (.inl rfl) (pe_tup (Qa (Qm Ql (pv 6) Qg (fun _ _=>rfl)) (Qa (z00 G_q11 (hr.mono (by omega)) rfl (Qa (pv 0) (Qa (Qm Ql (pv 6) Qg (fun _ _=>rfl)) (Qa (pe_slice z12 (pv 2) (po_some Qg) po_none) (Qa (pv 3) (Qa (pv 4) Qb)))))) Qb))))
  (Qc (ps_expr (pe_bm PySem.F.plainAttrs_list PySem.F.slot_list_append PySem.F.type_list_append mt_append (pv 8) (Qa (pe_tup (Qa (pv 13) (Qa (pe_op op_add Qg (pe_op op_mul (pv 4) (pe_callTy call_int1 rfl B.int boot_int (Qa (pv 9) Qb)))) Qb))) Qb)))
  (Qe (Qj (z00 G_q13 (hr.mono (by omega)) rfl (Qa (pv 8) Qb))))))))))),?_⟩
 have szl:=sizeLine_eq;obtain ⟨j,rr,rfl⟩:∃ j r,pl=j::r:=by
  cases pl with
  | nil=>exact absurd hb (by intro z; cases z)
  | cons j r=>exact ⟨j,r,rfl⟩
 obtain ⟨ga,gs,rfl,hga,hgb⟩:=z0u hu;have gl:=hgb.length;have glp:=g.len_parts;obtain ⟨p,ep⟩:∃ p,g.ps[j]?=some p:=by
  by_cases hr:rr=[]
  ·subst hr;obtain ⟨p,e,_⟩:=Gr.bare_one hb;exact ⟨p,e⟩
  ·obtain ⟨p,e,_⟩:=Gr.bare_more hr hb;exact ⟨p,e⟩
 have pm:=Qu ep;obtain ⟨n1,o1,p1,pD⟩:=Gr.ok_mem go pm;have pd:=g.mem_deep p pm;have pp:=g.mem_parts p pm;obtain ⟨vp,evp,hpd⟩:=hgb.at ep;obtain ⟨ad,bd,ux,rfl,h1,h2,h3,h4⟩:=z0h hpd;obtain ⟨kn,pn⟩:=Gr.named_iff.mp gn p pm;obtain ⟨kd2,eg2⟩:=Bk.get_of kn;have rok:RuOk r:=by
  rcases Qv (Qu er) with rfl | rm
  ·exact (Gr.noR_ok (ns:=[])).1
  ·exact ((ok.kd kd (Bk.get_some eg).1).2.2 r rm).1
 have rp:=rok.2.2;have hC:=Gr.C_pos go pm;refine ⟨_,rfl,a,_,_,_,rfl,rfl,hpl,atI_nat (j:=0) rfl,?_⟩;refine z02 ?_;refine ⟨_,rfl,_,rfl,ga,gs,_,_,rfl,rfl,hga,atI_nat evp,ad,_,rfl,h1,rfl,_,_,rfl,_,_,rfl,rfl,?_⟩;refine ⟨_,rfl,_,rfl,_,rfl,ga,gs,rfl,hga,fun c1 H1 s1 hc1=>?_⟩;rw [z2q] at hc1;refine ⟨_,rfl,_,rfl,_,_,rfl,rfl,_,rfl,ga,gs,rfl,s1.sqT hga,fun c2 H2 s2 hc2=>?_⟩;have e1:cutV gs (some ((j:Int)+1)) none=gs.drop (j+1):=by rw [<- z2r]; rfl
 rw [e1] at hc2;refine ⟨c1,c2,_,_,rfl,rfl,s2.sqT hc1,hc2,by rw [List.length_take,List.length_drop]; omega,fun c3 H3 s3 hc3=>?_⟩;refine ⟨c3,_,rfl,.inr hc3,fun L nL=>?_⟩;have t4:=SB.new (ps:=[]) nL (.lst (gs.take j++gs.drop (j+1)));have hL4:upd H3 L (.lst (gs.take j++gs.drop (j+1))) L=some (.lst (gs.take j++gs.drop (j+1))):=Qt;have s03:=(s1.trans s2).trans s3;have s04:=s03.trans t4;have nL0:H L=none:=s03.dom _ nL;generalize upd H3 L (.lst (gs.take j++gs.drop (j+1)))=H4 at t4 hL4 s04;have hb4:Bears K H4 Gr.pEnc (gs.take j++gs.drop (j+1)) (g.ps.take j++g.ps.drop (j+1)):=((hgb.take j).append (hgb.drop (j+1))).sb s04 Gr.noList_pEnc;have l4:(g.ps.take j++g.ps.drop (j+1)).length<=400:=by rw [Yf,List.length_take,List.length_drop]; omega
 have inG:∀ x ∈ g.ps.take j++g.ps.drop (j+1),x ∈ g.ps:=fun x hx=>by
  rcases Qw hx with hx | hx
  ·exact List.mem_of_mem_take hx
  ·exact List.mem_of_mem_drop hx
 refine z02 ?_;dsimp only;refine z15 (fun σ' G=>∃ zs,σ'=[some (.ref d),some (.ref ga),some (.ref a),some (.int (i:Nat)),some (.int m),some (.int (j:Nat)),some (.ref bd),some (.int p.2),some (.ref L),none,none,none,none,none,none,none]/\SB [L] H4 G/\G L=some (.lst zs)/\Bears K G Gr.pEnc zs (g.ps.take j++g.ps.drop (j+1)++(if 1 < p.2 then [(p.1,p.2-1)] else []))) (fun nx hnx=>?_) (fun σ' G h=>?_)
 ·refine ⟨_,rfl,_,_,rfl,rfl,_,rfl,?_⟩;by_cases h0:1 < p.2
  ·rw [Ya h0,if_pos h0] at *;refine iteT ⟨_,rfl,.inl ⟨rfl,_,SqL.of hL4⟩,_,rfl,_,rfl,_,_,rfl,rfl,by show 2<=sizeLine; decide,fun T nT=>?_⟩;have t5:=SB.new (ps:=[L]) nT (.tup [.ref bd,.int (p.2-1)]);have hL5:upd H4 T (.tup [.ref bd,.int (p.2-1)]) L=some (.lst (gs.take j++gs.drop (j+1))):=by rw [upd_ne (ne_of_none hL4 nT)]; exact hL4
   have hT5:SqT K (upd H4 T (.tup [.ref bd,.int (p.2-1)])) T [.ref bd,.int (p.2-1)]:=SqT.of Qt;generalize upd H4 T (.tup [.ref bd,.int (p.2-1)])=H5 at t5 hL5 hT5;have bl:=hb4.length;refine ⟨L,_,_,rfl,rfl,hL5,z0j (by omega),?_⟩;have t6:=SB.set (ps:=[L]) hL5 (by simp) (.lst (gs.take j++gs.drop (j+1)++[.ref T]));refine hnx _ _ ⟨_,rfl,t5.trans t6,Qt,((hb4.sb t5 Gr.noList_pEnc).sb t6 Gr.noList_pEnc).append (.cons (Dp.tup (t6.sqT hT5) (.cons (z0a ((s04.nil.trans t5).trans t6) _ _ (Gr.noList_tEnc _) h4) (.cons (.int _) .nil))) .nil)⟩
  ·rw [Qz h0];refine iteF (hnx _ _ ⟨_,rfl,SB.refl,hL4,?_⟩);rw [if_neg h0,List.append_nil];exact hb4
 obtain ⟨zs,rfl,s5,hL5,hb5⟩:=h;have s05:SB [] H G:=(s04.nil.trans s5).drop nL0;have zl:=hb5.length;have l5:(g.ps.take j++g.ps.drop (j+1)++(if 1 < p.2 then [(p.1,p.2-1)] else [])).length<=401:=by
  rw [Yf]
  split
  ·rw [Yi]; omega
  ·rw [List.length_nil]; omega
 have ok5:∀ x ∈ g.ps.take j++g.ps.drop (j+1)++(if 1 < p.2 then [(p.1,p.2-1)] else []),z03 x.1.1/\x.1.2.Ok C/\1<=x.2/\x.1.2.deep<=14:=fun x hx=>by
  rcases Qw hx with hx | hx
  ·have xm:=inG x hx;obtain ⟨a1,a2,a3,_⟩:=Gr.ok_mem go xm;have:=g.mem_deep x xm;exact ⟨a1,a2,a3,by omega⟩
  ·split at hx
   ·rw [Qy hx]; exact ⟨n1,o1,by show 1<=p.2-1; omega,by show p.1.2.deep<=14; omega⟩
   ·cases hx
 obtain ⟨vv,hvv,t,l,us,rfl,ht,hl,hbb⟩:=(hd.sb0 s05).val eg2;refine ⟨_,rfl,_,rfl,bd,_,_,_,rfl,rfl,s05.sqT h2,atI_nat (j:=0) rfl,d,_,rfl,hvv,t,_,rfl,ht,rfl,_,_,rfl,_,_,rfl,rfl,?_⟩;refine ⟨_,rfl,a,_,rfl,.inr (s05.sqT hpl),rfl,_,rfl,?_⟩;by_cases hr:rr=[]
 ·subst hr;obtain ⟨p',ep',epk⟩:=Gr.bare_one hb;rw [ep] at ep';cases ep';have e2:kd2=kd:=by
   rw [epk] at eg2;exact Yd (eg2.symm.trans eg)
  subst e2;refine iteT ?_;refine ⟨by show 0<=sizeLine; decide,fun z1 nz1=>?_⟩;have t6:=SB.new (ps:=[]) nz1 (.tup []);have hz1:SqT K (upd G z1 (.tup [])) z1 []:=SqT.of Qt;generalize upd G z1 (.tup [])=H6 at t6 hz1;refine ⟨by show 0<=sizeLine; decide,fun z2 nz2=>?_⟩;have t7:=SB.new (ps:=[]) nz2 (.tup []);have hz2:SqT K (upd H6 z2 (.tup [])) z2 []:=SqT.of Qt;generalize upd H6 z2 (.tup [])=H7 at t7 hz2;refine ⟨by show 2<=sizeLine; decide,fun z3 nz3=>?_⟩;have t8:=SB.new (ps:=[]) nz3 (.tup [.ref z1,.ref z2]);have hz3:SqT K (upd H7 z3 (.tup [.ref z1,.ref z2])) z3 [.ref z1,.ref z2]:=SqT.of Qt;generalize upd H7 z3 (.tup [.ref z1,.ref z2])=H8 at t8 hz3;have hno:Dp K H8 (.ref z3) (Ru.enc noR):=.tup hz3 (.cons (z5i ((t7.trans t8).sqT hz1)) (.cons (z5i (t8.sqT hz2)) .nil));refine ⟨by show 1<=sizeLine; decide,fun z4 nz4=>?_⟩;have t9:=SB.new (ps:=[]) nz4 (.lst [.ref z3]);have hz4:upd H8 z4 (.lst [.ref z3]) z4=some (.lst [.ref z3]):=Qt;generalize upd H8 z4 (.lst [.ref z3])=H9 at t9 hz4;have s59:=((t6.trans t7).trans t8).trans t9;have usl:=hbb.length;have u4:=(ok.kd kd2 (Bk.get_some eg).1).2.1;refine ⟨_,rfl,z4,l,_,_,rfl,rfl,hz4,s59.keep _ _ hl nmn,by rw [Yi]; omega,fun z5 nz5=>?_⟩;have t10:=SB.new (ps:=[]) nz5 (.lst ([.ref z3]++us));have hz5:upd H9 z5 (.lst ([.ref z3]++us)) z5=some (.lst ([.ref z3]++us)):=Qt;generalize upd H9 z5 (.lst ([.ref z3]++us))=H10 at t10 hz5;have s510:=s59.trans t10;have hall:Bears K H10 Ru.enc ([.ref z3]++us) (noR::kd2.rs):=.cons (z0a (t9.trans t10) _ _ (Ru.noList_enc _) hno) (hbb.sb s510 Ru.noList_enc);obtain ⟨rv,erv,hrv⟩:=hall.at er;cases hrv with
  | @tup rt us' _ hrt hda =>
  cases hda with
  | @cons v1 _ _ _ g1 hda =>
  cases hda with
  | @cons v2 _ _ _ g2 hda =>
  cases hda;have g1:GA K H10 v1 r.1:=g1;have g2:GA K H10 v2 r.2:=g2;obtain ⟨c4,xs1,rfl,hc4,hb6⟩:=z0u g1;obtain ⟨c5,xs2,rfl,hc5,hb7⟩:=z0u g2;have xl1:=hb6.length;have xl2:=hb7.length;have rl1:=r.1.len_parts;have rl2:=r.2.len_parts;refine ⟨_,rfl,z5,_,_,_,rfl,rfl,SqL.of hz5,atI_nat erv,rt,_,rfl,hrt,rfl,_,_,rfl,_,_,rfl,rfl,?_⟩;have hL10:=s510.keep _ _ hL5 nmn;have hb10:=hb5.sb s510 Gr.noList_pEnc;refine ⟨_,rfl,.inl ⟨rfl,_,SqL.of hL10⟩,_,rfl,L,c4,_,_,rfl,rfl,hL10,hc4,by omega,?_⟩;have t11:=SB.set (ps:=[L]) hL10 (by simp) (.lst (zs++xs1));have hL11:upd H10 L (.lst (zs++xs1)) L=some (.lst (zs++xs1)):=Qt;generalize upd H10 L (.lst (zs++xs1))=H11 at t11 hL11;have hb11:=(hb10.append hb6).sb t11 Gr.noList_pEnc;have s0b:SB [] H H11:=((s05.trans s510).nil.trans t11).drop nL0;have r1ok:∀ x ∈ r.1.ps,z03 x.1.1/\x.1.2.Ok 1000000001/\1<=x.2/\x.1.2.deep<=14:=fun x hx=>by
   obtain ⟨a1,a2,a3,_⟩:=Gr.ok_mem rok.1 hx;have:=r.1.mem_deep x hx;have:=z07 r.1;exact ⟨a1,a2,a3,by omega⟩
  have r2ok:∀ x ∈ r.2.ps,z03 x.1.1/\x.1.2.Ok 1000000001/\1<=x.2/\x.1.2.deep<=14:=fun x hx=>by
   obtain ⟨a1,a2,a3,_⟩:=Gr.ok_mem rok.2.1 hx;have:=r.2.mem_deep x hx;have:=z07 r.2;exact ⟨a1,a2,a3,by omega⟩
  dsimp only;refine z15 (fun σ' G2=>∃ (zs2:List V) (o14 o15:Option V),σ'=[some (.ref d),some (.ref ga),some (.ref a),some (.int (i:Nat)),some (.int m),some (.int (j:Nat)),some (.ref bd),some (.int p.2),some (.ref L),some (.bl kd2.w),some (.ref l),some (.ref c4),some (.ref c5),none,o14,o15]/\SB [L] H11 G2/\G2 L=some (.lst zs2)/\Bears K G2 Gr.pEnc zs2 ((g.ps.take j++g.ps.drop (j+1)++(if 1 < p.2 then [(p.1,p.2-1)] else []))++r.1.ps++(Gr.tmsG r.2 m).ps)) (fun nx hnx=>?_) (fun σ' G2 h=>?_)
  ·refine ⟨_,rfl,_,_,rfl,rfl,_,rfl,?_⟩;by_cases h0:0 < m
   ·rw [Ya h0];refine iteT ⟨_,rfl,.inl ⟨rfl,_,SqL.of hL11⟩,_,rfl,c5,rfl,⟨xs2,t11.sqT hc5⟩,fun D nD=>?_⟩;refine z0i (walk_tup (xs:=xs2)) nD (by omega) (fun jj ws H6=>Bears K H6 Gr.pEnc ws (Gr.tmsL m (r.2.ps.take jj))) .nil (fun H6 s6=>s6.sqT (t11.sqT hc5)) (fun _ _ _ _ s h=>h.sb s Gr.noList_pEnc) (fun Pv jj y Hq H6 ws hj s6 yy hR hu6 fin skip=>?_) (fun ws H6 s6 hD6 hR hu6=>?_)
    ·obtain ⟨rfl,ey2⟩:=yy;obtain ⟨x2,ex2,hx2⟩:=hb7.get ey2;have xm:=Qu ex2;obtain ⟨q1,q2,q3,q4⟩:=Gr.ok_mem rok.2.1 xm;obtain ⟨ad2,bd2,ux2,rfl,k1,k2,k3,k4⟩:=z0h hx2;have cm:CMulW x2.2 m:=by
      have e1:=z61 (x:=x2.2) (a:=2000) (b:=2000) (Gr.natAbs_lt (by omega) (Int.lt_trans q4 (by decide +kernel))) (Yc _) (by decide);have e2:=z61 (x:=m) (a:=2000) (b:=2000) (Gr.natAbs_lt m0 m1) (Yc _) (by decide);unfold CMulW;omega
     have s16:=t11.trans (s6.nil (ps:=[L]));refine ⟨ad2,_,rfl,s16.sqT k1,rfl,_,_,rfl,_,_,rfl,rfl,rfl,?_⟩;refine ⟨_,rfl,_,rfl,_,rfl,_,_,rfl,rfl,cm,by show 2<=sizeLine; decide,fun T nT=>?_⟩;have t12:=SB.new (ps:=[]) nT (.tup [.ref bd2,.int (x2.2*m)]);refine fin _ _ t12 ?_;rw [Yg,ex2];show Bears K _ Gr.pEnc _ (List.map _ _);rw [Yj];exact (hR.sb t12 Gr.noList_pEnc).append (.cons (Dp.tup (SqT.of Qt) (.cons (z0a (s16.trans t12.nil) _ _ (Gr.noList_tEnc _) k4) (.cons (.int _) .nil))) .nil)
    ·rw [xl2,Yh] at hR;have hL6:=s6.keep _ _ hL11 nmn;have wl:=hR.length;have wl2:(Gr.tmsL m r.2.ps).length=r.2.ps.length:=List.length_map ..;have z6l:(zs++xs1).length<=500:=by rw [Yf]; omega
     refine ⟨L,D,_,_,rfl,rfl,hL6,hD6,by omega,?_⟩;have t12:=SB.set (ps:=[L]) hL6 (by simp) (.lst (zs++xs1++ws));refine hnx _ _ ⟨_,_,_,rfl,s6.nil.trans t12,Qt,?_⟩;have em:(Gr.tmsG r.2 m).ps=Gr.tmsL m r.2.ps:=by
      unfold Gr.tmsG;rw [if_neg (by omega),Gr.ps_ofPs]
     rw [em];exact ((hb11.sb s6 Gr.noList_pEnc).sb t12 Gr.noList_pEnc).append (hR.sb t12 Gr.noList_pEnc)
   ·rw [Qz h0];refine iteF (hnx _ _ ⟨_,_,_,rfl,SB.refl,hL11,?_⟩);have em:(Gr.tmsG r.2 m).ps=[]:=by
     unfold Gr.tmsG;rw [if_pos (by omega)]; rfl
    rw [em,List.append_nil];exact hb11
  obtain ⟨zs2,o14,o15,rfl,s12,hL12,hb12⟩:=h;have s012:SB [] H G2:=(s0b.nil.trans s12).drop nL0;have tl:=Gr.tms_len r.2 m;have mok:∀ x ∈ (Gr.tmsG r.2 m).ps,z03 x.1.1/\x.1.2.Ok 1000000001/\1<=x.2/\x.1.2.deep<=14:=fun x hx=>by
   have mo:=Gr.tms_ok (m:=m) rok.2.1 (by decide) m0;obtain ⟨q,hq,eq⟩:=Gr.tms_key hx;obtain ⟨a1,a2,a3,a4⟩:=r2ok q hq;exact ⟨by rw [<- eq]; exact a1,by rw [<- eq]; exact a2,(Gr.ok_mem mo hx).2.2.1,by rw [<- eq]; exact a4⟩
  have all:∀ x ∈ (g.ps.take j++g.ps.drop (j+1)++(if 1 < p.2 then [(p.1,p.2-1)] else []))++r.1.ps++(Gr.tmsG r.2 m).ps,z03 x.1.1/\x.1.2.Ok (C+1000000001)/\1<=x.2/\x.1.2.deep<=14:=fun x hx=>by
   rcases Qw hx with hx | hx
   ·rcases Qw hx with hx | hx
    ·obtain ⟨a1,a2,a3,a4⟩:=ok5 x hx;exact ⟨a1,a2.mono (by omega),a3,a4⟩
    ·obtain ⟨a1,a2,a3,a4⟩:=r1ok x hx;exact ⟨a1,a2.mono (by omega),a3,a4⟩
   ·obtain ⟨a1,a2,a3,a4⟩:=mok x hx;exact ⟨a1,a2.mono (by omega),a3,a4⟩
  refine ⟨_,rfl,L,zs2,_,rfl,.inl (SqL.of hL12),hb12,?_,⟨C+1000000001,fun x hx=>⟨(all x hx).1,(all x hx).2.1,Yb (all x hx).2.2.2 (by decide)⟩⟩,fun v H' s13 hv=>q v H' (s012.trans s13) ?_⟩
  ·rw [Yf,Yf]; omega
  ·have e3:Gr.tidy ((g.ps.take j++g.ps.drop (j+1)++(if 1 < p.2 then [(p.1,p.2-1)] else []))++r.1.ps++(Gr.tmsG r.2 m).ps)=Gr.tgt (Gr.wo g p.1 1) (Gr.grw r m):=by
    refine Gr.tidy_eq (fun x hx=>⟨(all x hx).1,(all x hx).2.1,(all x hx).2.2.1⟩) (Gr.tgt_ok2 (Gr.wo_ok go (by decide)) (Gr.grw_ok rok m0) (by omega) (by omega)) fun x=>?_;rw [z0g,z0g,Gr.sum_one_less go ep x,Gr.S_tgt];unfold Gr.grw;rw [Gr.S_tgt];show _+Gr.S r.1 x+Gr.S (Gr.tmsG r.2 m) x=_;omega
   rw [e3] at hv;rw [Gr.stk_one ep];exact hv
 have hlen:decide (V.int (((j::rr).map fun n:Nat=>V.int (n:Int)).length:Nat)=V.int 1)=false:=by
  have:=List.length_pos_iff.mpr hr;simp only [Ye,Yk,V.int.injEq];exact Qz (by omega)
 rw [hlen];obtain ⟨p',ep',hb3⟩:=Gr.bare_more hr hb;have e:=ep.symm.trans ep';cases e;rw [Yk] at hm;refine iteF ⟨_,rfl,bd,_,_,_,rfl,rfl,s05.sqT h2,atI_nat (j:=0) rfl,_,rfl,_,rfl,bd,_,_,_,rfl,rfl,s05.sqT h2,atI_nat (j:=1) rfl,_,rfl,1,rfl,a,_,rfl,s05.sqT hpl,fun c H6 s6 hc=>?_⟩;rw [cut1,List.map_cons,List.drop_succ_cons,List.drop_zero] at hc;have s06:=s05.trans s6;refine ⟨_,rfl,_,rfl,d,c,ux,b,p.1.2,rr,k,kd,i,r,m,C,rfl,hd.sb0 s06,⟨ok,pn⟩,⟨h3.sb s06,o1,by omega,by omega⟩,hc,hb3,eg,er,m0,m1,by omega,fun inner H7 s7 hin=>?_⟩;refine ⟨by show 2<=sizeLine; decide,fun T nT=>?_⟩;have t8:=SB.new (ps:=[]) nT (.tup [.str p.1.1,inner]);have hT:Dp K (upd H7 T (.tup [.str p.1.1,inner])) (.ref T) (Gr.tEnc (Gr.chg b m (Gr.grw r m) rr p)):=.tup (SqT.of Qt) (.cons (.str _) (.cons (hin.sb t8) .nil));generalize upd H7 T (.tup [.str p.1.1,inner])=H8 at t8 hT;refine z02 ?_;have s58:=(s6.trans s7).trans t8;have hL8:=s58.keep _ _ hL5 nmn;have hb8:=hb5.sb s58 Gr.noList_pEnc;obtain ⟨f0,f1⟩:=Bk.far_le b p.1.1 m0;have hfar:1+m*(if kd2.w=true then 1 else 0)=1+b.far p.1.1 m:=by
  unfold Bk.far;rw [eg2];show _=1+(if kd2.w=true then m else 0)
  split <;> omega
 have w01:(-(2 ^ 64):Int) < (if kd2.w=true then 1 else 0)/\(if kd2.w=true then 1 else 0) < (2 ^ 64:Int):=by split <;> exact ⟨by decide,by decide⟩
 refine ⟨_,rfl,.inl ⟨rfl,_,SqL.of hL8⟩,_,rfl,_,rfl,_,rfl,.inr ⟨_,rfl,_,_,rfl,rfl,.inr w01,_,_,rfl,rfl,by show 2<=sizeLine; decide,fun T2 nT2=>?_⟩⟩;dsimp only;rw [hfar];have t9:=SB.new (ps:=[]) nT2 (.tup [.ref T,.int (1+b.far p.1.1 m)]);have hT9:SqT K (upd H8 T2 (.tup [.ref T,.int (1+b.far p.1.1 m)])) T2 [.ref T,.int (1+b.far p.1.1 m)]:=SqT.of Qt;have hL9:=t9.keep _ _ hL8 nmn;have hb9:=hb8.sb t9 Gr.noList_pEnc;have hTt:=z0a t9 _ _ (Gr.noList_tEnc _) hT;generalize upd H8 T2 (.tup [.ref T,.int (1+b.far p.1.1 m)])=H9 at t9 hT9 hL9 hb9 hTt;refine ⟨L,_,_,rfl,rfl,hL9,z0j (by omega),?_⟩;have t10:=SB.set (ps:=[L]) hL9 (by simp) (.lst (zs++[.ref T2]));have hL10:upd H9 L (.lst (zs++[.ref T2])) L=some (.lst (zs++[.ref T2])):=Qt;have hb10:Bears K (upd H9 L (.lst (zs++[.ref T2]))) Gr.pEnc (zs++[.ref T2]) ((g.ps.take j++g.ps.drop (j+1)++(if 1 < p.2 then [(p.1,p.2-1)] else []))++[(Gr.chg b m (Gr.grw r m) rr p,1+b.far p.1.1 m)]):=(hb9.sb t10 Gr.noList_pEnc).append (.cons (Dp.tup (t10.sqT hT9) (.cons (z0a t10 _ _ (Gr.noList_tEnc _) hTt) (.cons (.int _) .nil))) .nil);have s010:SB [] H (upd H9 L (.lst (zs++[.ref T2]))):=(((s05.trans s58).trans t9).nil.trans t10).drop nL0;generalize upd H9 L (.lst (zs++[.ref T2]))=H10 at t10 hL10 hb10 s010;have go2:=Gr.grw_ok rok m0;have hF:=Int.mul_nonneg (show (0:Int)<=1000000001 by omega) m0;have io:=Gr.stk_ok (b:=b) m0 (by omega) go2 o1 hb3;have id:=Gr.stk_deep (b:=b) (n:=m) (fr:=Gr.grw r m) hb3;have il:=Gr.bare_len hb3;have gd2:=Gr.grw_deep rok m;have all:∀ x ∈ (g.ps.take j++g.ps.drop (j+1)++(if 1 < p.2 then [(p.1,p.2-1)] else []))++[(Gr.chg b m (Gr.grw r m) rr p,1+b.far p.1.1 m)],z03 x.1.1/\x.1.2.Ok (C+(1000000001*m+2000000002)+m+2)/\1<=x.2/\x.1.2.deep<=18:=fun x hx=>by
  rcases Qw hx with hx | hx
  ·obtain ⟨a1,a2,a3,a4⟩:=ok5 x hx;exact ⟨a1,a2.mono (by omega),a3,by omega⟩
  ·rw [Qy hx];exact ⟨n1,io,by show 1<=1+b.far p.1.1 m; omega,by show (Gr.stk b m (Gr.grw r m) rr p.1.2).1.deep<=18; omega⟩
 refine ⟨_,rfl,L,_,_,rfl,.inl (SqL.of hL10),hb10,by rw [Yf,Yi]; omega,⟨_,fun x hx=>⟨(all x hx).1,(all x hx).2.1,(all x hx).2.2.2⟩⟩,fun v H' s11 hv=>q v H' (s010.trans s11) ?_⟩;rw [Gr.stk_more ep hr];have e3:Gr.tidy ((g.ps.take j++g.ps.drop (j+1)++(if 1 < p.2 then [(p.1,p.2-1)] else []))++[(Gr.chg b m (Gr.grw r m) rr p,1+b.far p.1.1 m)])=Gr.chR b m (Gr.grw r m) rr g p:=by
  refine Gr.tidy_eq (fun x hx=>⟨(all x hx).1,(all x hx).2.1,(all x hx).2.2.1⟩) (D:=C+(C+(1000000001*m+2000000002)+m+2)) (Gr.tgt_ok2 (Gr.wo_ok go (by decide)) (Gr.one_ok (C:=C+(1000000001*m+2000000002)+m+2) n1 io (by omega) (by omega)) (by omega) (by omega)) fun x=>?_;rw [z0g,Gr.sum_one_less go ep x];unfold Gr.chR;rw [Gr.S_tgt,Gr.S_one];simp only [sumE];omega
 rw [e3] at hv;exact hv
end
theorem zdx {K:Qn} {H:Hp} {p c:Addr} {Q:VK} {σ:L2.St} {jP jL jV k:Nat} {wi:TI} (hk:k<=1000) (h1:∀ x,((wipe σ [jV]).set jV (some x))[jP]?=some (some (.ref p))) (h2:∀ x,((wipe σ [jV]).set jV (some x))[jL]?=some (some (.str abc)))
  (h3:∀ x,wipe ((wipe σ [jV]).set jV (some x)) [jV]=wipe σ [jV]) (hwi:∀ R:It->Hp->Prop,R (Itr 0 k) H->wi σ H R) (hp:PotC H p c) (q:∀ z H',SB [p] H H'->PotC H' p c->Ltr z k->Q (.str z) H') :
  tM1 (zf4 K) (tC (.str (Str.ofString ""))) (tLc wi (gName jV) tYes (tOp rIxS (tVar jL) (tCall z19 [] E0 (tCons (tVar jP) (tCons (tC (.int 26)) tNil)))) [jV]) σ H Q:=by
 refine ⟨⟨_,rfl⟩,hwi _ fun D hD=>?_⟩;have szl:=sizeLine_eq;refine z96 walk_range [p] hD hp.some (by omega) (fun i us H2=>PotC H2 p c/\∃ cs:List Nat,us=cs.map (fun c=>V.str ⟨#[c]⟩)/\cs.length=i/\∀ c ∈ cs,97<=c/\c<=122) ⟨hp,[],rfl,rfl,by simp⟩ (fun _ _=>trivial) (fun i us H2 H3 e ⟨a,b⟩=>⟨a.keep e (by simpa using hp.ne hD) (by simpa using hp.nc hD),b⟩) (fun Pv i x H2 H' us hi s2 y hR hl fin _=>?_) (fun us H2 s2 hD2 hR hl=>?_)
 ·obtain ⟨rfl,rfl⟩:=y;obtain ⟨hp2,cs,rfl,cl,co⟩:=hR;refine ⟨h3 _,_,h2 _,?_⟩;refine ⟨_,h1 _,p,c,26,rfl,hp2,by decide,by decide,fun r H3 r0 r26 s3 hp3=>?_⟩;obtain ⟨n,rfl⟩:∃ n:Nat,r=(n:Int):=⟨r.toNat,by omega⟩;obtain ⟨c,hc,hco⟩:=zfb n (by omega);refine ⟨_,_,c,rfl,rfl,z9a,z32 hc,fin _ _ s3 ⟨hp3,cs++[c],by rw [Yj]; rfl,by simp [cl],fun d hd=>?_⟩⟩;rcases Qw hd with hd | hd
  ·exact co d hd
  ·rw [Qy hd]; exact hco
 ·obtain ⟨hp2,cs,rfl,cl,co⟩:=hR;have e1:(cs.map fun c=>V.str ⟨#[c]⟩)=(cs.map fun c=>(⟨#[c]⟩:Str)).map V.str:=by rw [List.map_map]; rfl
  rw [e1] at hD2;refine ⟨_,D,cs.map fun c=>⟨#[c]⟩,rfl,rfl,.inl (SqL.of hD2),?_,q _ _ s2 hp2 (by have:=zb4 cs co; rw [cl] at this; exact this)⟩;have:∀ cs:List Nat,((cs.map fun c=>(⟨#[c]⟩:Str)).map (·.length)).sum=cs.length:=by
   intro cs
   induction cs with
   | nil=>rfl
   | cons c r ih=>rw [List.map_cons,List.map_cons,List.sum_cons,ih]; show 1+r.length=r.length+1; omega
  rw [this,Ye,cl];have:(Str.ofString "").length=0:=by decide +kernel
  rw [this]; omega
theorem Ltr.dropE {z:Str} {n:Nat} (h:Ltr z n) (a:Nat):Ltr (cutS z (some (a:Int)) none) (n-min a n):=by
 have hl:=h.len;have e:(cutS z (some (a:Int)) none).cps.toList=z.cps.toList.drop (min a n):=by
  unfold cutS;rw [HT.sIx_nat,HT.sIx_none,hl];have:=h.1;rw [List.take_of_length_le (by rw [List.length_drop]; omega)]
 unfold Ltr;rw [e,List.length_drop,h.1];exact ⟨rfl,fun c hc=>h.2 c (List.mem_of_mem_drop hc)⟩
section
variable {P:Program} {w:World} {K:Qn} {mg:Str->Option Value} {base:Heap} {f:Addr} {fd:FuncData}
abbrev z7q:List Str:=["_law_pot_here","_law_many","_law_letters","_law_size","_law_stem","_law_at","_law_first","_law_step","_law_k"]
theorem sc_q17:FnScope z7q ["_law_pot_here","_law_many"] (defScope z28):=⟨rfl,rfl,rfl,by decide +kernel,rfl,by decide +kernel,by decide +kernel⟩
theorem zf8 (B:BI mg) (G_q23:Got P w K mg base "_law_take" ["_law_pot_here","_law_many"] (1) (z19)) (F:Fun K "_law_names" "_law_names" z28 f fd):FnOk P w K mg base CX0 (2) f fd ["_law_pot_here","_law_many"] (z81 K):=by
 refine F.ok sc_q17 (fun vs H Q E h=>?_) (fun cdv A outer s H vs Q E hr h=>?_)
 ·obtain ⟨p,cl,m,rfl,_⟩:=h
  rfl
 obtain ⟨p,cl,m,rfl,hp,m1,m8,q⟩:=h;have hun2:=hunT hr;refine ⟨_,Qc (ps_set (i:=2) sc_q17.nd rfl (.inr rfl) pe_str)
  (Qc (ps_set (i:=3) sc_q17.nd rfl (.inl rfl) (pe_op op_add Qg (z00 G_q23 (hr.mono (by omega)) rfl (Qa (pv 0) (Qa Qg Qb)))))
  (Qc (ps_set (i:=4) sc_q17.nd rfl (.inr rfl) (pe_join pe_str (pe_lc (own:=[("_law_k",8)]) (g:=(gName 8)) (tt:=tYes) (te:=(tOp rIxS (tVar 2) (tCall (z19) [] E0 (tCons (tVar 0) (tCons (tC (.int 26)) tNil))))) rfl sc_q17.nd (pi_range1 rfl B.range (Qa (pv 3) Qb)) (blkOk_by (N:=z7q) (sc:=defScope z28) (by decide +kernel)) (fun _ _ _ _ _=>(pg_name (i:=8) sc_q17.nd rfl (.inl rfl))) (fun _ _ _ _ _=>pts_nil) (fun _ _ _ _ _=>(Qm ix_str (pv 2) (z00 G_q23 (hr.mono (by omega)) rfl (Qa (pv 0) (Qa Qg Qb))) (fun _ _=>rfl))))))
  (Qc (Qr (pt_cmpR op_eq (z00 G_q23 (hr.mono (by omega)) rfl (Qa (pv 0) (Qa Qg Qb))) Qg (nomark _)) (Qe (Qj (pe_lc (own:=[("_law_k",8)]) (g:=(gName 8)) (tt:=tYes) (te:=(tOp zcz (tOp rIxS (tVar 4) (tC (.int 0))) (tOp (rI0 fun i j=>.int (i-j)) (tVar 1) (tVar 8)))) rfl sc_q17.nd (pi_range1 rfl B.range (Qa (pv 1) Qb)) (blkOk_by (N:=z7q) (sc:=defScope z28) (by decide +kernel)) (fun _ _ _ _ _=>(pg_name (i:=8) sc_q17.nd rfl (.inl rfl))) (fun _ _ _ _ _=>pts_nil) (fun _ _ _ _ _=>(pe_op zdw (Qm ix_str (pv 4) Qg (fun _ _=>rfl)) (pe_op op_sub (pv 1) (pv 8))))))) pss_nil)
  (Qc (ps_set (i:=5) sc_q17.nd rfl (.inr rfl) (z00 G_q23 (hr.mono (by omega)) rfl (Qa (pv 0) (Qa (pv 3) Qb))))
  (Qc (ps_set (i:=6) sc_q17.nd rfl (.inr rfl) (z00 G_q23 (hr.mono (by omega)) rfl (Qa (pv 0) (Qa Qg Qb))))
  (Qc (ps_set (i:=7) sc_q17.nd rfl (.inr rfl) (pe_op op_add Qg (z00 G_q23 (hr.mono (by omega)) rfl (Qa (pv 0) (Qa Qg Qb)))))
  (Qe (Qj (pe_lc (own:=[("_law_k",8)]) (g:=(gName 8)) (tt:=tYes) (te:=(tOp (fun x y H Q=>∃ i j,x=.str i/\y=.str j/\i.length+j.length<=sizeLine/\Q (.str (i++j)) H) (tOp (fun x y H Q=>∃ i j,x=.str i/\y=.str j/\i.length+j.length<=sizeLine/\Q (.str (i++j)) H) (tSl rSlS (tVar 4) tNoPart (tPart (tVar 5))) (tOp rIxS (tVar 2) (tOp (rI (fun _ j=>0 < j) fun i j=>.int (i % j)) (tOp (rI0 fun i j=>.int (i+j)) (tVar 6) (tOp (rI CMul fun i j=>.int (i*j)) (tVar 8) (tVar 7))) (tC (.int 26))))) (tSl rSlS (tVar 4) (tPart (tOp (rI0 fun i j=>.int (i+j)) (tVar 5) (tC (.int 1)))) tNoPart))) rfl sc_q17.nd (pi_range1 rfl B.range (Qa (pv 1) Qb)) (blkOk_by (N:=z7q) (sc:=defScope z28) (by decide +kernel)) (fun _ _ _ _ _=>(pg_name (i:=8) sc_q17.nd rfl (.inl rfl))) (fun _ _ _ _ _=>pts_nil) (fun _ _ _ _ _=>(pe_op op_add_str (pe_op op_add_str (pe_slice sl_str (pv 4) po_none (po_some (pv 5))) (Qm ix_str (pv 2) (pe_op op_mod (pe_op op_add (pv 6) (pe_op op_mul (pv 8) (pv 7))) Qg) (fun _ _=>rfl))) (pe_slice sl_str (pv 4) (po_some (pe_op op_add (pv 5) Qg)) po_none)))))))))))),?_⟩
 have szl:=sizeLine_eq;refine z02 (seqI (asgI ?_));refine ⟨_,rfl,p,cl,8,rfl,hp,by decide,by decide,fun r1 H1 r10 r18 s1 hp1=>?_⟩;obtain ⟨sz0,rfl⟩:∃ u:Nat,r1=(u:Int):=⟨r1.toNat,by omega⟩;refine ⟨_,_,rfl,rfl,?_⟩;refine z02 (seqI (asgI ?_));refine zdx (k:=1+sz0) (jP:=0) (jL:=2) (jV:=8) (c:=cl) (σ:=[some (.ref p),some (.int (m:Int)),some (.str abc),some (.int ((1:Int)+(sz0:Int))),none,none,none,none,none]) (by omega) (fun _=>rfl) (fun _=>rfl) (fun _=>rfl) (fun R hR=>⟨_,rfl,(1:Int)+(sz0:Int),rfl,by omega,by omega,by rw [show ((1:Int)+(sz0:Int)).toNat=1+sz0 by omega]; exact hR⟩) hp1 (fun st H2 s2 hp2 hst=>?_);have sl:=hst.len;refine z02 (ifI ?_);refine ⟨_,rfl,p,cl,3,rfl,hp2,by decide,by decide,fun r3 H3 r30 r33 s3 hp3=>?_⟩;refine ⟨rfl,_,rfl,?_⟩;have s03:SB [p] H H3:=(s1.trans s2).trans s3;refine ite2 (fun _=>?_) (fun _=>?_)
 ·obtain ⟨c0,ec0⟩:∃ c0,st.cps.toList[0]?=some c0:=⟨_,List.getElem?_eq_getElem (by rw [hst.1]; omega)⟩;have hc0:=hst.2 c0 (Qu ec0)
  let wA:Nat->Str:=fun i=>Txt.mul ⟨#[c0]⟩ ((m-i:Nat):Int)
  have lA:∀ i,Ltr (wA i) (m-i):=fun i=>Ltr.mul _ hc0;refine ⟨_,rfl,_,rfl,by omega,by omega,fun D hD=>?_⟩;rw [Int.toNat_natCast];refine z0i walk_range hD (by omega) (fun i us _=>us=((List.range i).map wA).map V.str) rfl (fun _ _=>trivial) (fun _ _ _ _ _ h=>h) (fun Pv i x Hx H' us hi sx y hR hl fin _=>?_) (fun us Hx sx hDx hR hl=>?_)
  ·obtain ⟨rfl,rfl⟩:=y;have e1:(m:Int)-(0+(i:Int))=((m-i:Nat):Int):=by omega
   refine ⟨rfl,?_⟩;refine ⟨_,rfl,st,0,c0,rfl,rfl,by omega,z32 (j:=0) ec0,_,rfl,_,rfl,_,_,rfl,rfl,⟨#[c0]⟩,m-i,rfl,congrArg V.int e1,by omega,by show 1<=1000; decide,?_⟩;refine fin _ _ SB.refl ?_;rw [hR,List.range_succ,Yj,Yj]
   rfl
  ·subst hR;refine q D _ Hx (s03.trans sx.nil) (hp3.sb sx) (s03.dom _ hD) hDx (by simp) (nodup_range fun i j hi hj hn e=>?_) (fun k hk=>?_)
   ·have e1:=(lA i).1;rw [e,(lA j).1] at e1;omega
   ·obtain ⟨i,hi,rfl⟩:=Qx hk;have hi:=List.mem_range.mp hi;exact (lA i).name (by omega) (by omega)
 ·refine ⟨_,rfl,_,rfl,p,cl,_,rfl,hp3,by omega,by omega,fun r4 H4 r40 r4m s4 hp4=>?_⟩;obtain ⟨at_,rfl⟩:∃ u:Nat,r4=(u:Int):=⟨r4.toNat,by omega⟩;refine z02 ?_;refine ⟨_,rfl,p,cl,26,rfl,hp4,by decide,by decide,fun r5 H5 r50 r5m s5 hp5=>?_⟩;obtain ⟨bg,rfl⟩:∃ u:Nat,r5=(u:Int):=⟨r5.toNat,by omega⟩;refine z02 ?_;refine ⟨_,rfl,p,cl,3,rfl,hp5,by decide,by decide,fun r6 H6 r60 r6m s6 hp6=>?_⟩;obtain ⟨sp,rfl⟩:∃ u:Nat,r6=(u:Int):=⟨r6.toNat,by omega⟩;refine ⟨_,_,rfl,rfl,?_⟩;refine z02 ?_;have s06:SB [p] H H6:=((s03.trans s4).trans s5).trans s6;have hat:at_ < 1+sz0:=by omega
  let wd:Nat->Str:=fun i=>cutS st none (some (at_:Int))++⟨#[97+(bg+i*(1+sp)) % 26]⟩++cutS st (some ((at_+1:Nat):Int)) none
  have la':=(hst.take at_).len;have lb:=(hst.dropE (at_+1)).len;have key:∀ i,Ltr (wd i) (min at_ (1+sz0)+1+(1+sz0-min (at_+1) (1+sz0))):=fun i=>((hst.take at_).append (Ltr.one (by omega))).append (hst.dropE (at_+1));refine ⟨_,rfl,_,rfl,by omega,by omega,fun D hD=>?_⟩;rw [Int.toNat_natCast];refine z0i walk_range hD (by omega) (fun i us _=>us=((List.range i).map wd).map V.str) rfl (fun _ _=>trivial) (fun _ _ _ _ _ h=>h) (fun Pv i x Hx H' us hi sx y hR hl fin _=>?_) (fun us Hx sx hDx hR hl=>?_)
  ·obtain ⟨rfl,rfl⟩:=y;have e4:((bg:Int)+(0+(i:Int))*(1+(sp:Int))) % 26=(((bg+i*(1+sp)) % 26:Nat):Int):=by
    rw [Int.zero_add]; push_cast; rfl
   refine ⟨rfl,?_⟩;refine ⟨_,rfl,_,rfl,_,rfl,st,rfl,by omega,_,rfl,_,rfl,_,rfl,_,rfl,_,_,rfl,rfl,.inl ⟨by show (-(2 ^ 64):Int) < 0+(i:Int); omega,by show 0+(i:Int) < 2 ^ 64; omega⟩,_,_,rfl,rfl,_,_,rfl,rfl,(by show (0:Int) < 26; decide),abc,_,97+(bg+i*(1+sp)) % 26,rfl,rfl,z9a,?_,_,_,rfl,rfl,?_,?_⟩
   ·show atI abc.cps.toList (((bg:Int)+(0+(i:Int))*(1+(sp:Int))) % 26)=_;rw [e4];exact z32 (zc9 _ (by omega))
   ·rw [la']; show _+1<=_; omega
   have ea:(at_:Int)+1=((at_+1:Nat):Int):=by omega
   refine ⟨_,rfl,_,rfl,_,_,rfl,rfl,_,rfl,st,rfl,by omega,_,_,rfl,rfl,?_,?_⟩
   ·show (cutS st none (some (at_:Int))++(⟨#[97+(bg+i*(1+sp)) % 26]⟩:Str)).length+(cutS st (some ((at_:Int)+1)) none).length<=sizeLine;have h1:(cutS st none (some (at_:Int))++(⟨#[97+(bg+i*(1+sp)) % 26]⟩:Str)).length=min at_ (1+sz0)+1:=((hst.take at_).append (Ltr.one (c:=97+(bg+i*(1+sp)) % 26) (by omega))).len;rw [h1,ea,lb]; omega
   refine fin _ _ SB.refl ?_;rw [hR,List.range_succ,Yj,Yj];show _++[V.str (cutS st none (some (at_:Int))++(⟨#[97+(bg+i*(1+sp)) % 26]⟩:Str)++cutS st (some ((at_:Int)+1)) none)]=_;rw [ea]
   rfl
  ·subst hR;refine q D _ Hx (s06.trans sx.nil) (hp6.sb sx) (s06.dom _ hD) hDx (by simp) (nodup_range fun i j hi hj hn e=>?_) (fun k hk=>?_)
   ·have e1:=(hst.take at_).mid (c:=97+(bg+i*(1+sp)) % 26) (b:=cutS st (some ((at_+1:Nat):Int)) none);have e2:=(hst.take at_).mid (c:=97+(bg+j*(1+sp)) % 26) (b:=cutS st (some ((at_+1:Nat):Int)) none);have e':cutS st none (some (at_:Int))++(⟨#[97+(bg+i*(1+sp)) % 26]⟩:Str)++cutS st (some ((at_+1:Nat):Int)) none=cutS st none (some (at_:Int))++(⟨#[97+(bg+j*(1+sp)) % 26]⟩:Str)++cutS st (some ((at_+1:Nat):Int)) none:=e;rw [e',e2] at e1
    injection e1 with e1
    have:sp=0\/sp=1\/sp=2:=by omega
    rcases this with rfl | rfl | rfl <;> omega
   ·obtain ⟨i,hi,rfl⟩:=Qx hk;exact (key i).name (by omega) (by omega)
end
namespace Gr
theorem tidy_named {ns:List Str} {bs:List (Tr × Int)} (h:∀ p ∈ bs,p.1.1 ∈ ns/\Named ns p.1.2):Named ns (tidy bs):=named_iff.mpr fun p hp=>by
 have hp:p ∈ tdy tEnc bs:=by rw [<- ps_ofPs (tdy tEnc bs)]; exact hp
 obtain ⟨q,hq,e⟩:=z1m (enc:=tEnc) _ p hp;rw [<- e];exact h q hq
theorem tidy_ne {bs:List (Tr × Int)} (h:bs ≠ []) (pos:∀ p ∈ bs,1<=p.2):tidy bs ≠ .nil:=fun e=>by
 cases bs with
 | nil=>exact h rfl
 | cons p r =>
  have h0:tdy tEnc (p::r)=[]:=by rw [<- ps_ofPs (tdy tEnc (p::r))]; show (tidy _).ps=[]; rw [e]; rfl
  have h1:=z1w (enc:=tEnc) (p::r) p.1;rw [h0,z0f,if_pos rfl] at h1;have h2:=sumE_nonneg (bs:=r) p.1 fun q hq=>by have:=pos q (mcm _ hq); omega
  have h3:=pos p (mcs ..);simp only [sumE] at h1;omega
end Gr
section
variable {P:Program} {w:World} {K:Qn} {mg:Str->Option Value} {base:Heap} {f:Addr} {fd:FuncData}
abbrev zj9:List Str:=["_law_pot_here","_law_names_here","_law_parts","_law_great","_law_pairs","_law_kind","_law_within","_law_inner","_law_way","_law_many"]
theorem sc_q10:FnScope zj9 ["_law_pot_here","_law_names_here","_law_parts","_law_great"] (defScope z5z):=⟨rfl,rfl,rfl,by decide +kernel,rfl,by decide +kernel,by decide +kernel⟩
theorem zcb {ps:List Str} {k:Nat}:FnOk P w K mg base CX0 k f fd ps (z1i K 0):=z0v fun vs H Q E ⟨_,_,_,_,_,_,_,_,_,h,_⟩=>by omega
theorem ze5 {n:Nat} (B:BI mg) (G_q23:Got P w K mg base "_law_take" ["_law_pot_here","_law_many"] (1) (z19)) (G_q10:Got P w K mg base "_law_drawn_grove" ["_law_pot_here","_law_names_here","_law_parts","_law_great"] (n+1) (z1i K n)) (G_q13:Got P w K mg base "_law_grove_of" ["_law_pairs"] (1) (z2o K)) (F:Fun K "_law_drawn_grove" "_law_drawn_grove" z5z f fd):FnOk P w K mg base CX0 (n+2) f fd ["_law_pot_here","_law_names_here","_law_parts","_law_great"] (z1i K (n+1)):=by
 refine F.ok sc_q10 (fun vs H Q E h=>?_) (fun cdv A outer s H vs Q E hr h=>?_)
 ·obtain ⟨p,nl,cl,ks,m,c,rfl,_⟩:=h
  rfl
 obtain ⟨p,nl,cl,ks,m,c,rfl,hp,⟨hn,np,k8,kok⟩,hm,m12,c3,c60,q⟩:=h;have hun2:=hunT hr;refine ⟨_,Qc (ps_set (i:=4) sc_q10.nd rfl (.inl rfl) (pe_lst Qb))
  (Qc (ps_while PassesOwn.never (PW.pt (pw_and (pt_cmpR op_gt (pv 2) Qg (nomark _)) (pw_and1 (pt_cmpR (op_neD (by show A.units+3+64 < cLine; omega)) (pv 1) (pe_lst Qb) (nomark _))))) (Qc (ps_set (i:=5) sc_q10.nd rfl (.inl rfl) (Qm ix_list (pv 1) (z00 G_q23 (hr.mono (by omega)) rfl (Qa (pv 0) (Qa (Qs call_len_seq rfl B.len PySem.boot_len (Qa (pv 1) Qb)) Qb))) (fun _ _=>rfl)))
  (Qc (ps_set (i:=6) sc_q10.nd rfl (.inl rfl) (z00 G_q23 (hr.mono (by omega)) rfl (Qa (pv 0) (Qa (pv 2) Qb))))
  (Qc (ps_set (i:=7) sc_q10.nd rfl (.inl rfl) (z00 G_q10 (hr.mono (by omega)) rfl (Qa (pv 0) (Qa (pv 1) (Qa (pv 6) (Qa (pv 3) Qb))))))
  (Qc (ps_set (i:=8) sc_q10.nd rfl (.inl rfl) (z00 G_q23 (hr.mono (by omega)) rfl (Qa (pv 0) (Qa Qg Qb))))
  (Qc (ps_set (i:=9) sc_q10.nd rfl (.inl rfl) (Qm ix_list (pe_lst (Qa Qg (Qa Qg (Qa Qg Qb)))) (pe_op op_mod (pv 8) Qg) (fun _ _=>rfl)))
  (Qc (Qr (pt_cmpR op_eq (pv 8) Qg (nomark _)) (Qe (ps_set (i:=9) sc_q10.nd rfl (.inl rfl) (pe_op op_add Qg (z00 G_q23 (hr.mono (by omega)) rfl (Qa (pv 0) (Qa (pv 3) Qb)))))) pss_nil)
  (Qc (ps_expr (pe_bm PySem.F.plainAttrs_list PySem.F.slot_list_append PySem.F.type_list_append mt_append (pv 4) (Qa (pe_tup (Qa (pe_tup (Qa (pv 5) (Qa (pv 7) Qb))) (Qa (pv 9) Qb))) Qb)))
  (Qe (ps_set (i:=2) sc_q10.nd rfl (.inl rfl) (pe_op op_sub (pe_op op_sub (pv 2) Qg) (pv 6))))))))))))
  (Qe (Qj (z00 G_q13 (hr.mono (by omega)) rfl (Qa (pv 4) Qb))))),?_⟩
 have szl:=sizeLine_eq;refine ⟨by show 0<=sizeLine; decide,fun D nD=>?_⟩;have t1:=SB.new (ps:=[]) nD (.lst []);have hD1:upd H D (.lst []) D=some (.lst []):=Qt;have hp1:=hp.sb t1;have pD:=hp.ne nD;have cD:=hp.nc nD;have hn1:=t1.keep _ _ hn nmn;have nDl:nl ≠ D:=ne_of_none hn nD;generalize upd H D (.lst [])=H1 at t1 hD1 hp1 hn1;refine z02 ?_
 let Pv:Nat->L2.St->Hp->Prop:=fun k σ H2=>SB [p,D] H1 H2/\PotC H2 p cl/\∃ (us:List V) (acc:List (Tr × Int)) (o5 o6 o7 o8 o9:Option V),σ=[some (.ref p),some (.ref nl),some (.int (k:Int)),some (.int c),some (.ref D),o5,o6,o7,o8,o9]/\H2 D=some (.lst us)/\Bears K H2 Gr.pEnc us acc/\Gr.tot acc+k<=m/\(k < m->acc ≠ [])/\allE acc<=acc.length*c/\∀ x ∈ acc,(z03 x.1.1/\x.1.2.Ok (m*c+1)/\1<=x.2)/\x.1.2.deep < m/\x.1.1 ∈ ks/\Gr.Named ks x.1.2
 refine ⟨Pv,⟨m,SB.refl,hp1,[],[],none,none,none,none,none,rfl,hD1,.nil,by show 0+m<=m; omega,fun h=>by omega,by simp [allE],fun x hx=>nomatch hx⟩,fun k σ H2 h=>?_⟩;obtain ⟨s2,hp2,us,acc,o5,o6,o7,o8,o9,rfl,hD2,hb2,tk,ne,al,good⟩:=h;have hn2:=s2.keep _ _ hn1 (by simp [np,nDl]);have accl:=Gr.len_tot acc;have usl:=hb2.length;have done:(k=0\/ks=[])->∀ H3,SB [] H2 H3->tRet (tCall (z2o K) [] E0 (tCons (tVar 4) tNil)) { nx:=fun x H'=>Q V.non H',rt:=Q } [some (.ref p),some (.ref nl),some (.int (k:Int)),some (.int c),some (.ref D),o5,o6,o7,o8,o9] H3:=fun hor H3 s3=>by
  have hD3:=s3.keep _ _ hD2 nmn;have s03:SB [p] H H3:=((t1.nil.trans (s2.trans s3.nil)).mono (qs:=[D,p]) (by simp)).drop nD;have hc0:(0:Int)<=(m:Int)*c:=Int.mul_nonneg (by omega) (by omega);refine ⟨_,rfl,D,us,acc,rfl,.inl (SqL.of hD3),hb2.sb s3 Gr.noList_pEnc,by omega,⟨m*c+1,fun x hx=>⟨(good x hx).1.1,(good x hx).1.2.1,by have:=(good x hx).2.1; omega⟩⟩,fun v H' s4 hv=>?_⟩;have hle:(acc.length:Int)*c<=(m:Int)*c:=Int.mul_le_mul_of_nonneg_right (by omega) (by omega);refine q v _ H' (s03.trans s4.nil) ((hp2.sb s3).sb s4) hv (Gr.tidy_ok (fun x hx=>(good x hx).1) (by omega) (Int.le_refl _)) (Yb (Gr.tidy_parts acc) (by omega)) (Gr.tidy_deep fun x hx=>(good x hx).2.1) (Gr.tidy_named fun x hx=>(good x hx).2.2) fun m1 kn=>Gr.tidy_ne (ne ?_) fun x hx=>(good x hx).1.2.2;rcases hor with h | h
  ·omega
  ·exact absurd h kn
 refine ⟨_,rfl,_,_,rfl,rfl,_,rfl,?_⟩;by_cases k0:0 < k
 ·rw [Ya (show (0:Int) < (k:Int) by omega)];refine iteT ?_;refine ⟨_,rfl,by show 0<=sizeLine; decide,fun e0 ne0=>?_⟩;have t3:=SB.new (ps:=[]) ne0 (.lst []);have he3:SqL K (upd H2 e0 (.lst [])) e0 []:=SqL.of Qt;have hn3:=t3.keep _ _ hn2 nmn;have hp3:=hp2.sb t3;have hD3:=t3.keep _ _ hD2 nmn;generalize upd H2 e0 (.lst [])=H3 at t3 he3 hn3 hp3 hD3;refine ⟨.list (ks.map .str),.list [],Dp.lst (SqL.of hn3) (z5w _).dp,Dp.lst he3 .nil,z8a kok,by decide +kernel,_,rfl,?_⟩;rw [zdm];by_cases kn:ks=[]
  ·rw [Ya kn];exact done (.inr kn) H3 t3
  rw [Qz kn];have kl:0 < ks.length:=List.length_pos_iff.mpr kn;refine ⟨fun σ' H'=>∃ k',k' < k/\Pv k' σ' H',fun σ' H' z=>z,?_⟩;refine ⟨_,rfl,_,rfl,_,rfl,nl,_,rfl,.inl (SqL.of hn3),p,cl,_,rfl,hp3,by rw [Ye]; omega,by rw [Ye]; omega,fun r4 H4 r40 r4m s4 hp4=>?_⟩;obtain ⟨u,rfl⟩:∃ u:Nat,r4=(u:Int):=⟨r4.toNat,by omega⟩;rw [Ye] at r4m;have eu:ks[u]?=some ks[u]:=List.getElem?_eq_getElem (by omega);generalize hkk:ks[u]=kk at eu;have kkm:=Qu eu;have hn4:=s4.keep _ _ hn3 (by simp [np]);refine ⟨nl,_,_,_,rfl,rfl,SqL.of hn4,atI_nat (j:=u) (by rw [List.getElem?_map,eu]; rfl),?_⟩;refine z02 ?_;refine ⟨_,rfl,_,rfl,p,cl,_,rfl,hp4,by omega,by omega,fun r5 H5 r50 r5m s5 hp5=>?_⟩;obtain ⟨wn,rfl⟩:∃ u:Nat,r5=(u:Int):=⟨r5.toNat,by omega⟩;refine z02 ?_;have hn5:=s5.keep _ _ hn4 (by simp [np]);refine ⟨_,rfl,_,rfl,_,rfl,_,rfl,p,nl,cl,ks,wn,c,rfl,hp5,⟨hn5,np,k8,kok⟩,by omega,by omega,c3,c60,fun v g H6 s6 hp6 hg gok gpt gdp gnm _=>?_⟩;refine z02 ?_;refine ⟨_,rfl,p,cl,4,rfl,hp6,by decide,by decide,fun wy H7 wy0 wy4 s7 hp7=>?_⟩;refine z02 ?_;refine ⟨by show 3<=sizeLine; decide,fun L nL=>?_⟩;have t8:=SB.new (ps:=[]) nL (.lst [.int 1,.int 2,.int 3]);have hL8:upd H7 L (.lst [.int 1,.int 2,.int 3]) L=some (.lst [.int 1,.int 2,.int 3]):=Qt;have hp8:=hp7.sb t8;generalize upd H7 L (.lst [.int 1,.int 2,.int 3])=H8 at t8 hL8 hp8;obtain ⟨mv,emv,mv1,mv3⟩:∃ mv:Int,atI [V.int 1,V.int 2,V.int 3] (wy % 3)=some (.int mv)/\1<=mv/\mv<=3:=by
   rcases (by omega:wy % 3=0\/wy % 3=1\/wy % 3=2) with z | z | z <;> rw [z]
   ·exact ⟨1,rfl,by omega,by omega⟩
   ·exact ⟨2,rfl,by omega,by omega⟩
   ·exact ⟨3,rfl,by omega,by omega⟩
  refine ⟨_,rfl,_,_,rfl,rfl,(by show (0:Int) < 3; decide),L,_,_,_,rfl,rfl,SqL.of hL8,emv,?_⟩;refine z02 ?_;have s38:SB [p] H3 H8:=(((s4.trans s5).trans s6).trans s7).trans t8.nil;have s68:SB [p] H6 H8:=s7.trans t8.nil;dsimp only;refine z15 (fun σ' G=>∃ mz:Int,σ'=[some (.ref p),some (.ref nl),some (.int (k:Int)),some (.int c),some (.ref D),some (.str kk),some (.int (wn:Int)),some v,some (.int wy),some (.int mz)]/\SB [p] H8 G/\PotC G p cl/\1<=mz/\mz<=c) (fun nx hnx=>?_) (fun σ' G h=>?_)
  ·refine ⟨_,rfl,rfl,_,rfl,?_⟩;cases decide (V.int wy=V.int 3) with
   | false=>exact iteF (hnx _ _ ⟨mv,rfl,SB.refl,hp8,by omega,by omega⟩)
   | true =>
    refine iteT ⟨_,rfl,_,rfl,p,cl,_,rfl,hp8,by omega,Int.lt_of_le_of_lt c60 (by decide +kernel),fun r9 H9 r90 r9m s9 hp9=>?_⟩;exact ⟨_,_,rfl,rfl,z02 (hnx _ _ ⟨1+r9,rfl,s9,hp9,by omega,by omega⟩)⟩
  obtain ⟨mz,rfl,s9,hp9,mz1,mzc⟩:=h;have s39:SB [p] H3 G:=s38.trans s9;have s69:SB [p] H6 G:=s68.trans s9;have hD9:=s39.keep _ _ hD3 (by simpa using fun z:D=p=>pD z.symm);have hg9:=hg.sb s69;refine ⟨_,rfl,.inl ⟨rfl,_,SqL.of hD9⟩,_,rfl,_,rfl,by show 2<=sizeLine; decide,fun T1 n1=>?_⟩;have t10:=SB.new (ps:=[]) n1 (.tup [.str kk,v]);have hT1:SqT K (upd G T1 (.tup [.str kk,v])) T1 [.str kk,v]:=SqT.of Qt;have hD10:=t10.keep _ _ hD9 nmn;have hp10:=hp9.sb t10;have hg10:=hg9.sb t10;generalize upd G T1 (.tup [.str kk,v])=H10 at t10 hT1 hD10 hp10 hg10;refine ⟨_,rfl,by show 2<=sizeLine; decide,fun T2 n2=>?_⟩;have t11:=SB.new (ps:=[]) n2 (.tup [.ref T1,.int mz]);have hT2:SqT K (upd H10 T2 (.tup [.ref T1,.int mz])) T2 [.ref T1,.int mz]:=SqT.of Qt;have hT1':=t11.sqT hT1;have hD11:=t11.keep _ _ hD10 nmn;have hp11:=hp10.sb t11;have hg11:=hg10.sb t11;generalize upd H10 T2 (.tup [.ref T1,.int mz])=H11 at t11 hT2 hT1' hD11 hp11 hg11;refine ⟨D,us,_,rfl,rfl,hD11,by omega,?_⟩;have t12:=SB.set (ps:=[D]) hD11 (by simp) (.lst (us++[.ref T2]));have hD12:upd H11 D (.lst (us++[.ref T2])) D=some (.lst (us++[.ref T2])):=Qt;have hp12:=hp11.keep t12 (by simpa using pD) (by simpa using cD);generalize upd H11 D (.lst (us++[.ref T2]))=H12 at t12 hD12 hp12;have s211:SB [p] H2 H11:=(t3.nil.trans s39).trans (t10.trans t11).nil;have s212:SB [p,D] H2 H12:=(s211.mono (by simp)).trans (t12.mono (by simp));refine ⟨_,rfl,_,_,rfl,rfl,_,rfl,_,_,rfl,rfl,?_⟩;have ek:(k:Int)-1-(wn:Int)=((k-1-wn:Nat):Int):=by omega
  refine z02 ⟨k-1-wn,by omega,s2.trans s212,hp12,us++[.ref T2],acc++[((kk,g),mz)],_,_,_,_,_,by rw [<- ek]; rfl,hD12,?_,?_,fun _=>by simp,?_,fun x hx=>?_⟩
  ·exact ((hb2.sb s211 Gr.noList_pEnc).sb t12 Gr.noList_pEnc).append (.cons (Dp.tup (t12.sqT hT2) (.cons (Dp.tup (t12.sqT hT1') (.cons (.str _) (.cons (hg11.sb t12) .nil))) (.cons (.int _) .nil))) .nil)
  ·rw [Gr.tot_append];have:Gr.tot [((kk,g),mz)]=1+g.parts+0:=rfl;omega
  ·rw [z14,Yf,Yi];have h1:allE [((kk,g),mz)]=mz+0:=rfl;have h2:((acc.length+1:Nat):Int)*c=acc.length*c+c:=by rw [Int.natCast_add,Int.add_mul]; simp
   omega
  ·rcases Qw hx with hx | hx
   ·exact good x hx
   ·rw [Qy hx];have hle:(wn:Int)*c<=(m:Int)*c:=Int.mul_le_mul_of_nonneg_right (by omega) (by omega);exact ⟨⟨kok kk kkm,gok.mono (by omega),mz1⟩,by show g.deep < m; omega,kkm,gnm⟩
 ·rw [Qz (show ¬ (0:Int) < (k:Int) by omega)];exact iteF (done (.inl (by omega)) H2 SB.refl)
abbrev N_q9:List Str:=["_law_pot_here","_law_most","_law_names_here","_law_book","_law_k","_law_name","_law_rules","_law_spreads","_law_turn","_law_parts","_law_each","_law_once"]
theorem sc_q9:FnScope N_q9 ["_law_pot_here","_law_most"] (defScope s_q9):=⟨rfl,rfl,rfl,by decide +kernel,rfl,by decide +kernel,by decide +kernel⟩
theorem zid (B:BI mg) (G_q17:Got P w K mg base "_law_names" ["_law_pot_here","_law_many"] (2) (z81 K)) (G_q23:Got P w K mg base "_law_take" ["_law_pot_here","_law_many"] (1) (z19)) (G_q10:Got P w K mg base "_law_drawn_grove" ["_law_pot_here","_law_names_here","_law_parts","_law_great"] (14) (z1i K 13)) (F:Fun K "_law_drawn_book" "_law_drawn_book" s_q9 f fd):FnOk P w K mg base CX0 (16) f fd ["_law_pot_here","_law_most"] (z9f K):=by
 refine F.ok sc_q9 (fun vs H Q E h=>?_) (fun cdv A outer s H vs Q E hr h=>?_)
 ·obtain ⟨p,cl,m,rfl,_⟩:=h
  rfl
 obtain ⟨p,cl,m,rfl,hp,m1,m6,q⟩:=h;have hun2:=hunT hr;refine ⟨_,Qc (ps_set (i:=2) sc_q9.nd rfl (.inl rfl) (z00 G_q17 (hr.mono (by omega)) rfl (Qa (pv 0) (Qa (pe_op op_add Qg (z00 G_q23 (hr.mono (by omega)) rfl (Qa (pv 0) (Qa (pv 1) Qb)))) Qb))))
  (Qc (ps_set (i:=3) sc_q9.nd rfl (.inl rfl) pe_dnewK)
  (Qc (ps_for PassesOwn.never rfl (pi_enum rfl B.enumerate (Qa (pv 2) Qb)) (pg_tup rfl (Qi (pg_name (i:=4) sc_q9.nd rfl (.inl rfl)) (Qi (pg_name (i:=5) sc_q9.nd rfl (.inl rfl)) pgs_nil)))
   (Qc (ps_set (i:=6) sc_q9.nd rfl (.inl rfl) (pe_lst Qb))
  (Qc (ps_set (i:=7) sc_q9.nd rfl (.inl rfl) (pe_cmpR op_eq (z00 G_q23 (hr.mono (by omega)) rfl (Qa (pv 0) (Qa Qg Qb))) Qg (nomark _)))
  (Qc (ps_for PassesOwn.never rfl (pi_range1 rfl B.range (Qa (Qm ix_list (pe_lst (Qa Qg (Qa Qg (Qa Qg (Qa Qg (Qa Qg Qb)))))) (z00 G_q23 (hr.mono (by omega)) rfl (Qa (pv 0) (Qa Qg Qb))) (fun _ _=>rfl)) Qb)) (pg_name (i:=8) sc_q9.nd rfl (.inl rfl))
   (Qc (ps_set (i:=9) sc_q9.nd rfl (.inl rfl) (z00 G_q23 (hr.mono (by omega)) rfl (Qa (pv 0) (Qa Qg Qb))))
  (Qc (ps_set (i:=10) sc_q9.nd rfl (.inl rfl) (z00 G_q23 (hr.mono (by omega)) rfl (Qa (pv 0) (Qa (pe_op op_add (pv 9) Qg) Qb))))
  (Qc (ps_set (i:=11) sc_q9.nd rfl (.inl rfl) (z00 G_q10 (hr.mono (by omega)) rfl (Qa (pv 0) (Qa (pe_slice sl_list (pv 2) po_none (po_some (pv 4))) (Qa (pe_op op_sub (pv 9) (pv 10)) (Qa (pe_op op_mul Qg (pe_op op_pow Qg Qg)) Qb))))))
  (Qe (ps_expr (pe_bm PySem.F.plainAttrs_list PySem.F.slot_list_append PySem.F.type_list_append mt_append (pv 6) (Qa (pe_tup (Qa (pv 11) (Qa (z00 G_q10 (hr.mono (by omega)) rfl (Qa (pv 0) (Qa (pe_slice sl_list (pv 2) po_none (po_some (pv 4))) (Qa (pv 10) (Qa (pe_op op_mul Qg (pe_op op_pow Qg Qg)) Qb))))) Qb))) Qb))))))))
  (Qe (ps_dput (by show A.units+3+1 < cLine; omega) (pv 3) (pv 5) (pe_tup (Qa (pv 7) (Qa (pv 6) Qb))) rfl))))))
  (Qe (Qj (pv 3))))),?_⟩
 have szl:=sizeLine_eq;refine ⟨_,rfl,_,rfl,_,rfl,p,cl,_,rfl,hp,by omega,by omega,fun r1 H1 r10 r1m s1 hp1=>?_⟩;obtain ⟨mn,rfl⟩:∃ u:Nat,r1=(u:Int):=⟨r1.toNat,by omega⟩;have em:(1:Int)+(mn:Int)=((1+mn:Nat):Int):=by omega
 refine ⟨_,_,rfl,rfl,p,cl,1+mn,(by show [V.ref p,V.int ((1:Int)+(mn:Int))]=_; rw [em]),hp1,by omega,by omega,fun nl ks H2 s2 hp2 nnl hn2 kl knd kok=>?_⟩;refine z02 ?_;have nlp:nl ≠ p:=fun z=>hp1.ne nnl z.symm;have nlc:nl ≠ cl:=fun z=>hp1.nc nnl z.symm;intro D nD;have t3:=SB.new (ps:=[]) nD (.dK []);have hD3:upd H2 D (.dK []) D=some (.dK (nKV (Bk.names []) [])):=Qt;have hn3:=t3.keep _ _ hn2 nmn;have hp3:=hp2.sb t3;have pD:=hp2.ne nD;have cD:=hp2.nc nD;have nlD:nl ≠ D:=ne_of_none hn2 nD;have s03:SB [p] H (upd H2 D (.dK [])):=(s1.trans s2).trans t3.nil;have nD0:H D=none:=(s1.trans s2).dom _ nD;generalize upd H2 D (.dK [])=H3 at t3 hD3 hn3 hp3 s03;refine z02 ?_;refine ⟨_,rfl,nl,_,rfl,SqL.of hn3,?_⟩;refine for_it (walk_enum (K:=K) (a:=nl) (xs:=ks.map V.str)) (fun i σ H4=>SB [p,D] H3 H4/\PotC H4 p cl/\∃ (us:List V) (b:Bk) (o4 o5 o6 o7 o8 o9 o10 o11:Option V),σ=[some (.ref p),some (.int (m:Int)),some (.ref nl),some (.ref D),o4,o5,o6,o7,o8,o9,o10,o11]/\H4 D=some (.dK (nKV b.names us))/\z0r (KvA K H4) us b/\b.names=ks.take i/\(∀ k ∈ b,k.rs.length<=4/\∀ r ∈ k.rs,RuOk r/\r.1.parts+r.2.parts<=3)/\∀ (j:Nat) (k:Kd),b[j]?=some k->∀ r ∈ k.rs,∀ x ∈ Ru.within r,x.1.1 ∈ ks.take j)
  ⟨SB.refl,hp3,[],[],none,none,none,none,none,none,none,none,rfl,hD3,.nil,by simp,(fun k hk=>nomatch hk),(fun j k h=>by simp at h)⟩ (fun i σ H4 hi h=>h.1.sqL (by simp [nlp,nlD]) (SqL.of hn3)) (fun i x σ H4 H' hi h y=>?_) (fun σ H4 h=>?_)
 ·obtain ⟨s4,hp4,us,b,o4,o5,o6,o7,o8,o9,o10,o11,rfl,hD4,hpl,bn,good,ahd⟩:=h;obtain ⟨T,x1,y1,rfl,hT,rfl,ex,ey⟩:=y;have ex:some (V.int (i:Nat))=some x1:=ex;cases ex;have ey:(ks.map V.str)[i]?=some y1:=ey;rw [List.getElem?_map] at ey;rw [Ye] at hi;obtain ⟨nm,en,rfl⟩:=Option.map_eq_some_iff.mp ey;have hn4:=s4.keep _ _ hn3 (by simp [nlp,nlD]);have t5:=SB.new (ps:=[]) hT (.tup [.int (i:Nat),.str nm]);have hT5:upd H4 T (.tup [.int (i:Nat),.str nm]) T=some (.tup [.int (i:Nat),.str nm]):=Qt;have hp5:=hp4.sb t5;have hn5:=t5.keep _ _ hn4 nmn;have hD5:=t5.keep _ _ hD4 nmn;generalize upd H4 T (.tup [.int (i:Nat),.str nm])=H5 at t5 hT5 hp5 hn5 hD5;refine ⟨T,_,rfl,SqT.of hT5,rfl,_,_,rfl,_,_,rfl,rfl,?_⟩;refine ⟨by show 0<=sizeLine; decide,fun R nR=>?_⟩;have t6:=SB.new (ps:=[]) nR (.lst []);have hR6:upd H5 R (.lst []) R=some (.lst []):=Qt;have hp6:=hp5.sb t6;have hn6:=t6.keep _ _ hn5 nmn;have hD6:=t6.keep _ _ hD5 nmn;have pR:=hp5.ne nR;have cR:=hp5.nc nR;have nlR:nl ≠ R:=ne_of_none hn5 nR;have DR:D ≠ R:=ne_of_none hD5 nR;generalize upd H5 R (.lst [])=H6 at t6 hR6 hp6 hn6 hD6;refine z02 ?_;refine ⟨_,rfl,p,cl,2,rfl,hp6,by decide,by decide,fun r7 H7 _ _ s7 hp7=>?_⟩;refine ⟨rfl,?_⟩;generalize decide (V.int r7=V.int 1)=wd;refine z02 ?_;refine ⟨by show 5<=sizeLine; decide,fun L nL=>?_⟩;have t8:=SB.new (ps:=[]) nL (.lst [.int 0,.int 1,.int 1,.int 2,.int 3]);have hL8:upd H7 L (.lst [.int 0,.int 1,.int 1,.int 2,.int 3]) L=some (.lst [.int 0,.int 1,.int 1,.int 2,.int 3]):=Qt;have hp8:=hp7.sb t8;have Lp:=hp7.ne nL;generalize upd H7 L (.lst [.int 0,.int 1,.int 1,.int 2,.int 3])=H8 at t8 hL8 hp8;refine ⟨_,rfl,p,cl,5,rfl,hp8,by decide,by decide,fun r9 H9 r90 r95 s9 hp9=>?_⟩;obtain ⟨ct,ect,ct3⟩:∃ ct:Nat,atI [V.int 0,.int 1,.int 1,.int 2,.int 3] r9=some (.int (ct:Int))/\ct<=3:=by
   rcases (by omega:r9=0\/r9=1\/r9=2\/r9=3\/r9=4) with h | h | h | h | h <;> subst h
   ·exact ⟨0,rfl,by omega⟩
   ·exact ⟨1,rfl,by omega⟩
   ·exact ⟨1,rfl,by omega⟩
   ·exact ⟨2,rfl,by omega⟩
   ·exact ⟨3,rfl,by omega⟩
  have s69:SB [p] H6 H9:=(s7.trans t8.nil).trans s9;refine ⟨L,_,_,_,rfl,rfl,SqL.of (s9.keep _ _ hL8 (by simpa using fun z:L=p=>Lp z.symm)),ect,(ct:Int),rfl,by omega,by omega,?_⟩;rw [Int.toNat_natCast];have hR9:=s69.keep _ _ hR6 (by simpa using fun z:R=p=>pR z.symm);refine for_it walk_range (fun j σ Ha=>SB [R,p] H9 Ha/\PotC Ha p cl/\∃ (vs:List V) (rs:List Ru) (o8 o9 o10 o11:Option V),σ=[some (.ref p),some (.int (m:Int)),some (.ref nl),some (.ref D),some (.int (i:Int)),some (.str nm),some (.ref R),some (.bl wd),o8,o9,o10,o11]/\Ha R=some (.lst vs)/\Bears K Ha Ru.enc vs rs/\rs.length<=j/\∀ r ∈ rs,RuOk r/\r.1.parts+r.2.parts<=3/\∀ x ∈ Ru.within r,x.1.1 ∈ ks.take i)
   ⟨SB.refl,hp9,[],[],_,_,_,_,rfl,hR9,.nil,Yc _,fun r hr=>nomatch hr⟩ (fun _ _ _ _ _=>trivial) (fun j x σ Ha H' hj h8 y=>?_) (fun σ Ha h8=>?_)
  ·obtain ⟨sa,hpa,vs,rs,o8,o9,o10,o11,rfl,hRa,hba,rl,hrs⟩:=h8;obtain ⟨rfl,rfl⟩:=y;have hna:H' nl=some (.lst (ks.map V.str)):=sa.keep _ _ (s69.keep _ _ hn6 (by simpa using nlp)) (by simp [nlR,nlp]);refine z2l ?_;refine ⟨_,rfl,p,cl,4,rfl,hpa,by decide,by decide,fun rm Hb rm0 rm4 sb hpb=>?_⟩;obtain ⟨pm,rfl⟩:∃ u:Nat,rm=(u:Int):=⟨rm.toNat,by omega⟩;refine z02 ?_;refine ⟨_,rfl,_,rfl,_,_,rfl,rfl,p,cl,(pm:Int)+1,rfl,hpb,by omega,by omega,fun re Hc re0 rem sc hpc=>?_⟩;obtain ⟨eh,rfl⟩:∃ u:Nat,re=(u:Int):=⟨re.toNat,by omega⟩;refine z02 ?_;have sac:SB [p] H' Hc:=sb.trans sc;have hnc:=sac.keep _ _ hna (by simpa using nlp);have e8:(3:Int)*10 ^ (8:Int).toNat=300000000:=by decide
   have kt:∀ x ∈ ks.take i,z03 x:=fun x hx=>kok x (List.mem_of_mem_take hx);have ktl:(ks.take i).length<=8:=by rw [List.length_take]; omega
   refine ⟨_,rfl,_,rfl,_,rfl,_,rfl,nl,_,rfl,SqL.of hnc,fun S nS=>?_⟩;have t10:=SB.new (ps:=[]) nS (.lst (cutV (ks.map V.str) none (some (i:Int))));have hS:upd Hc S (.lst (cutV (ks.map V.str) none (some (i:Int)))) S=some (.lst ((ks.take i).map V.str)):=by rw [Qt,z2q,List.map_take]
   have hp10:=hpc.sb t10;have Sp:S ≠ p:=fun z=>hpc.ne nS z.symm;have hn10:=t10.keep _ _ hnc nmn;generalize upd Hc S (.lst (cutV (ks.map V.str) none (some (i:Int))))=Hd at t10 hS hp10 hn10;have emo:(pm:Int)-(eh:Int)=((pm-eh:Nat):Int):=by omega
   refine ⟨_,rfl,_,rfl,_,_,rfl,rfl,10,8,rfl,rfl,⟨by decide,by decide⟩,_,_,rfl,rfl,.inl ⟨by decide,by decide⟩,p,S,cl,ks.take i,pm-eh,300000000,(by show [V.ref p,V.ref S,V.int ((pm:Int)-(eh:Int)),V.int (3*10 ^ (8:Int).toNat)]=_; rw [emo,e8]),hp10,⟨hS,Sp,ktl,kt⟩,by omega,by omega,by decide,by decide,fun v1 g1 He se hpe hg1 ok1 pt1 dp1 nm1 _=>?_⟩;refine z02 ?_;have sae:SB [p] H' He:=(sac.trans t10.nil).trans se;have hRe:=sae.keep _ _ hRa (by simpa using fun z:R=p=>pR z.symm);have hne:=sae.keep _ _ hna (by simpa using nlp);refine ⟨_,rfl,.inl ⟨rfl,_,SqL.of hRe⟩,_,rfl,_,rfl,_,rfl,_,rfl,_,rfl,nl,_,rfl,SqL.of hne,fun S2 nS2=>?_⟩;have t11:=SB.new (ps:=[]) nS2 (.lst (cutV (ks.map V.str) none (some (i:Int))));have hS2:upd He S2 (.lst (cutV (ks.map V.str) none (some (i:Int)))) S2=some (.lst ((ks.take i).map V.str)):=by rw [Qt,z2q,List.map_take]
   have hp11:=hpe.sb t11;have S2p:S2 ≠ p:=fun z=>hpe.ne nS2 z.symm;have hR11:=t11.keep _ _ hRe nmn;generalize upd He S2 (.lst (cutV (ks.map V.str) none (some (i:Int))))=Hf at t11 hS2 hp11 hR11;refine ⟨_,rfl,10,8,rfl,rfl,⟨by decide,by decide⟩,_,_,rfl,rfl,.inl ⟨by decide,by decide⟩,p,S2,cl,ks.take i,eh,300000000,(by show [V.ref p,V.ref S2,V.int (eh:Int),V.int (3*10 ^ (8:Int).toNat)]=_; rw [e8]),hp11,⟨hS2,S2p,ktl,kt⟩,by omega,by omega,by decide,by decide,fun v2 g2 Hg sg hpg hg2 ok2 pt2 dp2 nm2 _=>?_⟩;refine ⟨by show 2<=sizeLine; decide,fun T2 nT2=>?_⟩;have sag:SB [p] H' Hg:=(sae.trans t11.nil).trans sg;have seg:SB [p] He Hg:=t11.nil.trans sg;have hRg:=sag.keep _ _ hRa (by simpa using fun z:R=p=>pR z.symm);have t14:=SB.new (ps:=[]) nT2 (.tup [v1,v2]);have hT14:SqT K (upd Hg T2 (.tup [v1,v2])) T2 [v1,v2]:=SqT.of Qt;have hR14:=t14.keep _ _ hRg nmn;have hb14:=(hba.sb sag Ru.noList_enc).sb t14 Ru.noList_enc;have hg1':=GA.sb (GA.sb hg1 seg) t14;have hg2':=GA.sb hg2 t14;have hp14:=hpg.sb t14;generalize upd Hg T2 (.tup [v1,v2])=Hh at t14 hT14 hR14 hb14 hg1' hg2' hp14;have vl:=hb14.length;refine ⟨R,_,_,rfl,rfl,hR14,by omega,?_⟩;have t15:=SB.set (ps:=[R]) hR14 (by simp) (.lst (vs++[.ref T2]));refine ⟨sa.trans (((sag.trans t14.nil).mono (by simp)).trans (t15.mono (by simp))),hp14.keep t15 (by simpa using pR) (by simpa using cR),vs++[.ref T2],rs++[(g1,g2)],_,_,_,_,rfl,Qt,?_,by rw [Yf,Yi]; omega,fun r hr=>?_⟩
   ·exact (hb14.sb t15 Ru.noList_enc).append (.cons (.tup (t15.sqT hT14) (.cons (GA.sb hg1' t15) (.cons (GA.sb hg2' t15) .nil))) .nil)
   ·rcases Qw hr with hr | hr
    ·exact hrs r hr
    ·rw [Qy hr];refine ⟨⟨ok1.mono (by omega),ok2.mono (by omega),by show g1.parts+g2.parts<=4; omega⟩,by show g1.parts+g2.parts<=3; omega,fun x hx=>?_⟩;rcases Qw hx with hx | hx
     ·exact nm1 x hx
     ·exact nm2 x hx
  obtain ⟨sa,hpa,vs,rs,o8,o9,o10,o11,rfl,hRa,hba,rl,hrs⟩:=h8;have s6a:SB [R,p] H6 Ha:=(s69.mono (by simp)).trans sa;have s5a:SB [p] H5 Ha:=((t6.nil (ps:=[R,p])).trans s6a).drop nR;have hDa:=s5a.keep _ _ hD5 (by simpa using fun z:D=p=>pD z.symm);refine ⟨_,rfl,_,rfl,by show 2<=sizeLine; decide,fun T3 nT3=>?_⟩;have t16:=SB.new (ps:=[]) nT3 (.tup [.bl wd,.ref R]);have hT16:SqT K (upd Ha T3 (.tup [.bl wd,.ref R])) T3 [.bl wd,.ref R]:=SqT.of Qt;have hDb:=t16.keep _ _ hDa nmn;have hRb:=t16.keep _ _ hRa nmn;have hbb:=hba.sb t16 Ru.noList_enc;have hpb:=hpa.sb t16;have s4b:SB [p] H4 (upd Ha T3 (.tup [.bl wd,.ref R])):=((t5.nil (ps:=[p])).trans s5a).trans t16.nil;generalize upd Ha T3 (.tup [.bl wd,.ref R])=Hb at t16 hT16 hDb hRb hbb hpb s4b;have ul:=hpl.length;have bl:b.names.length=i:=by rw [bn,List.length_take]; omega
  have bl2:b.length=i:=by rw [<- bl]; exact (List.length_map ..).symm
  have fresh:nm ∉ b.names:=fun z=>by
   rw [bn] at z;obtain ⟨j,hj,ej⟩:=List.getElem_of_mem z;rw [List.getElem_take] at ej;rw [List.length_take] at hj;obtain ⟨hi2,e2⟩:=List.getElem_of_getElem? en;exact List.pairwise_iff_getElem.mp knd j i (by omega) hi2 (by omega) (ej.trans e2.symm)
  have zl:(nKV b.names us).length < sizeLine:=by
   show (List.zipWith _ _ _).length < _;rw [List.length_zipWith]; omega
  refine ⟨_,rfl,_,rfl,D,_,rfl,DPut.k (k:=Sum.inr nm) hDb zl,?_⟩;have t17:=SB.setD (ps:=[D]) hDb (by simp) (.dK (putK (nKV b.names us) (Sum.inr nm) (.ref T3)));have hDc:upd Hb D (.dK (putK (nKV b.names us) (Sum.inr nm) (.ref T3))) D=some (.dK (nKV (Bk.names (b++[⟨nm,wd,rs⟩])) (us++[.ref T3]))):=by
   rw [Qt,zdc (by rw [ul,bl2,bl]) fresh];show _=some (HO.dK (nKV (List.map _ (b++[_])) _));rw [Yj]; rfl
  have RD:R ≠ D:=fun z=>DR z.symm;have hp17:=hpb.keep t17 (by simpa using pD) (by simpa using cD);have noD:NoL Hb [D]:=NoL.one hDb;have nop:NoL H4 [p]:=by obtain ⟨kvs,h⟩:=hp4.isD; exact NoL.one h
  refine ⟨s4.trans ((s4b.mono (by simp)).trans (t17.mono (by simp))),hp17,us++[.ref T3],b++[⟨nm,wd,rs⟩],_,_,_,_,_,_,_,_,rfl,hDc,?_,?_,fun k hk=>?_,fun j k hjk=>?_⟩
  ·refine (hpl.mono fun v k h=>(h.sb s4b nop).sb t17 noD).append (.cons ⟨T3,R,vs,rfl,t17.sqT hT16,t17.keep _ _ hRb (by simpa using RD),hbb.sb t17 Ru.noList_enc⟩ .nil)
  ·rw [Bk.names,Yj,Yg,en];show Bk.names b++[nm]=_;rw [bn]; rfl
  ·rcases Qw hk with hk | hk
   ·exact good k hk
   ·rw [Qy hk]; exact ⟨by show rs.length<=4; omega,fun r hr=>⟨(hrs r hr).1,(hrs r hr).2.1⟩⟩
  ·rcases Nat.lt_or_ge j b.length with h | h
   ·rw [List.getElem?_append_left h] at hjk;exact ahd j k hjk
   ·rw [List.getElem?_append_right h] at hjk;have hj0:j-b.length=0:=by
     rcases Nat.eq_zero_or_pos (j-b.length) with z | z
     ·exact z
     ·rw [List.getElem?_eq_none (by rw [Yi]; omega)] at hjk; cases hjk
    rw [hj0] at hjk;cases hjk;have:j=i:=by omega
    subst this;exact fun r hr=>(hrs r hr).2.2
 ·obtain ⟨s4,hp4,us,b,o4,o5,o6,o7,o8,o9,o10,o11,rfl,hD4,hpl,bn,good,ahd⟩:=h;rw [Ye,Yh] at bn;have bl:b.length=ks.length:=by rw [<- bn]; exact (List.length_map ..).symm
  have hmem:∀ k ∈ b,k.n ∈ ks:=fun k hk=>by rw [<- bn]; exact List.mem_map.mpr ⟨k,hk,rfl⟩
  have s04:SB [p] H H4:=((s03.mono (qs:=[D,p]) (by simp)).trans (s4.mono (by simp))).drop nD0;refine ⟨_,rfl,q D b H4 s04 hp4 nD0 (fun z=>pD z.symm) ⟨us,hD4,hpl⟩ ⟨⟨by omega,by omega,by rw [bn]; exact knd,fun k hk=>⟨kok _ (hmem k hk),(good k hk).1,fun r hr=>⟨((good k hk).2 r hr).1,fun x hx=>?_⟩⟩⟩,by omega,fun i k e r hr x hx=>?_,fun k hk r hr=>((good k hk).2 r hr).2⟩⟩
  ·obtain ⟨j,e⟩:=List.getElem?_of_mem hk;rw [bn];exact List.mem_of_mem_take (ahd j k e r hr x hx)
  ·have:=ahd i k e r hr x hx;rw [Bk.names,List.map_take];rw [<- bn] at this;exact this
end
theorem KdAll.thaw {K:Qn} {H:Hp} {bad:List Addr} {D:Addr} {od:Obj} {kvs:List (Key × V)} {u:HO} (h:H D=some (.frz od (.dK kvs))):∀ {vs:List V} {b:Bk},KdAll K H bad vs b->KdAll K (upd H D u) bad vs b
 | _,_,.nil=>.nil
 | _,_,.cons ⟨t,l,zs,e1,e2,e3,e4,e5⟩ r=>.cons ⟨t,l,zs,e1,z4a h _ _ e2,by rw [upd_ne (fun z=>by rw [z,h] at e3; cases e3)]; exact e3,e4.tp (z4a h) Ru.noList_enc,e5⟩ (KdAll.thaw h r)
theorem KdAll.rev {K:Qn} {H:Hp} {bad:List Addr}:∀ {vs:List V} {b:Bk},KdAll K H bad vs b->KdAll K H bad vs.reverse b.reverse
 | _,_,.nil=>.nil
 | _,_,.cons h r=>by
  rw [List.reverse_cons,List.reverse_cons];exact (KdAll.rev r).append (.cons h .nil)
section
variable {P:Program} {w:World} {K:Qn} {mg:Str->Option Value} {base:Heap} {f:Addr} {fd:FuncData}
abbrev zcm:List Str:=["_law_book","_law_turned","_law_found","_law_name","_law_spreads","_law_rules"]
theorem sc_q14:FnScope zcm ["_law_book","_law_turned"] (defScope z3q):=⟨rfl,rfl,rfl,by decide +kernel,rfl,by decide +kernel,by decide +kernel⟩
theorem zeg (B:BI mg) (F:Fun K "_law_kinds" "_law_kinds" z3q f fd):FnOk P w K mg base CX0 (1) f fd ["_law_book","_law_turned"] (z84 K):=by
 refine F.ok sc_q14 (fun vs H Q E h=>?_) (fun cdv A outer s H vs Q E hr h=>?_)
 ·obtain ⟨d,b,t,rfl,_⟩:=h
  rfl
 obtain ⟨d,b,t,rfl,hd,b100,q⟩:=h;have hun2:=hunT hr;refine ⟨_,Qc (ps_lock (ps_setLc (i:=2) (own:=[("_law_name",3),("_law_spreads",4),("_law_rules",5)]) (g:=(gTup K 2 (gCons (gName 3) (gCons (gTup K 2 (gCons (gName 4) (gCons (gName 5) gNil))) gNil)))) (tt:=tYes) (te:=(tTup (tCons (tVar 3) (tCons (tVar 4) (tCons (tCB (fun xs H Q=>∃ p ys,xs=[.ref p]/\(SqL K H p ys\/SqT K H p ys)/\∀ l,H l=none->Q (.ref l) (upd H l (.lst ys))) (tCons (tVar 5) tNil)) tNil))))) rfl sc_q14.nd rfl rfl (sw_true rfl rfl rfl (by decide +kernel)) (pi_items (pv 0)) (blkOk_by (N:=zcm) (sc:=defScope z3q) (by decide +kernel)) (fun _ _ _ _ _=>(pg_tup rfl (Qi (pg_name (i:=3) sc_q14.nd rfl (.inl rfl)) (Qi (pg_tup rfl (Qi (pg_name (i:=4) sc_q14.nd rfl (.inl rfl)) (Qi (pg_name (i:=5) sc_q14.nd rfl (.inl rfl)) pgs_nil))) pgs_nil)))) (fun _ _ _ _ _=>pts_nil) (fun _ _ _ _ _=>(pe_tup (Qa (pv 3) (Qa (pv 4) (Qa (pe_callTy call_list_of rfl B.list boot_list (Qa (pv 5) Qb)) Qb)))))))
  (Qe (Qj (Qm ix_list (pe_lst (Qa (pv 2) (Qa (pe_revL (pv 2)) Qb))) (pe_callTy call_int1 rfl B.int boot_int (Qa (pv 1) Qb)) (fun _ _=>rfl)))),?_⟩
 have szl:=sizeLine_eq;obtain ⟨us,hd1,hpl⟩:=hd;have ul:=hpl.length;have kl:(nKV b.names us).length=b.length:=by
  show (List.zipWith _ _ _).length=_;rw [List.length_zipWith,Ye]; omega
 refine ⟨d,_,hd1,trivial,fun od=>?_⟩;have hL:∀ l xs,H l=some (.lst xs)->upd H d (.frz od (.dK (nKV b.names us))) l=some (.lst xs):=fun l xs h=>by rw [upd_ne (fun z=>by rw [z,hd1] at h; cases h)]; exact h
 have hT:∀ a xs,SqT K H a xs->SqT K (upd H d (.frz od (.dK (nKV b.names us)))) a xs:=fun a xs s=>by
  rcases s with (s | ⟨o,s⟩) | s
  ·exact .inl (.inl (by rw [upd_ne (fun z=>by rw [z,hd1] at s; cases s)]; exact s))
  ·exact .inl (.inr ⟨o,by rw [upd_ne (fun z=>by rw [z,hd1] at s; cases s)]; exact s⟩)
  ·exact .inr s
 have hplL:z0r (KvA K (upd H d (.frz od (.dK (nKV b.names us))))) us b:=hpl.mono fun v k ⟨t,l,zs,e1,e2,e3,e4⟩=>⟨t,l,zs,e1,hT _ _ e2,hL _ _ e3,e4.tp hT Ru.noList_enc⟩;have hdL:upd H d (.frz od (.dK (nKV b.names us))) d=some (.frz od (.dK (nKV b.names us))):=Qt;have un:∀ H',SB [] (upd H d (.frz od (.dK (nKV b.names us)))) H'->SB [] H (upd H' d (.dK (nKV b.names us))):=fun H' s=>s.unlock hd1 (fun _ z=>nomatch z) (fun _ _ z=>nomatch z);have dm:∀ p,upd H d (.frz od (.dK (nKV b.names us))) p=none->H p=none:=fun p h=>by
  have z:p ≠ d:=fun z=>by rw [z,Qt] at h; cases h
  rwa [upd_ne z] at h
 generalize upd H d (.frz od (.dK (nKV b.names us)))=HL at hplL hdL un dm;refine ⟨_,rfl,d,od,_,rfl,hdL,fun D nD=>?_⟩;have dD:d ≠ D:=fun z=>by rw [z,nD] at hdL; cases hdL
 refine lc_it walk_items (fun i H2=>SB [D] HL H2/\∃ ws,H2 D=some (.lst ws)/\KdAll K H2 [D] ws (b.take i)) ⟨SB.new nD _,[],Qt,.nil⟩ (fun i H2 hi h=>h.1.frzs _ _ _ hdL) (fun i x H2 H' hi h y=>?_) (fun H2 h=>?_)
 ·obtain ⟨s2,ws,hD2,hk2⟩:=h;obtain ⟨T,x1,y1,rfl,hTn,rfl,ex,ey⟩:=y;have hib:i < b.length:=by rw [kl] at hi; exact hi
  obtain ⟨k,ek⟩:∃ k,b[i]?=some k:=⟨_,List.getElem?_eq_getElem hib⟩;obtain ⟨u,eu⟩:∃ u,us[i]?=some u:=⟨_,List.getElem?_eq_getElem (by omega)⟩;have enk:b.names[i]?=some k.n:=by rw [List.getElem?_map,ek]; rfl
  have ekv:(nKV b.names us)[i]?=some (Sum.inr k.n,u):=by
   show (List.zipWith _ _ _)[i]?=_;rw [List.getElem?_zipWith,enk,eu]
  have ex:(nKV b.names us)[i]?.map (fun kv:Key × V=>kV kv.1)=some x1:=ex;have ey:(nKV b.names us)[i]?.map Prod.snd=some y1:=ey;rw [ekv] at ex ey;cases ex;cases ey;obtain ⟨k',ek',tt,l,zs,e1,e2,e3,e4⟩:=hplL.get eu;rw [ek] at ek';cases ek';have e1:u=.ref tt:=e1;subst e1;have t3:=SB.new (ps:=[]) hTn (.tup [kV (Sum.inr k.n),.ref tt]);have hT3:upd H2 T (.tup [kV (Sum.inr k.n),.ref tt]) T=some (.tup [kV (Sum.inr k.n),.ref tt]):=Qt;have hD3:=t3.keep _ _ hD2 nmn;have hk3:=hk2.sb t3 NoLst.nil;have s3:=s2.trans (t3.nil (ps:=[D]));generalize upd H2 T (.tup [kV (Sum.inr k.n),.ref tt])=H3 at t3 hT3 hD3 hk3 s3;have lD:l ≠ D:=fun z=>by rw [z,nD] at e3; cases e3
  have hl3:=s3.keep _ _ e3 (by simpa using lD);refine ⟨T,_,rfl,SqT.of hT3,rfl,_,_,rfl,_,_,rfl,tt,_,rfl,s3.sqT e2,rfl,_,_,rfl,_,_,rfl,rfl,rfl,rfl,?_⟩;refine ⟨_,rfl,_,rfl,_,rfl,l,zs,rfl,.inl (SqL.of hl3),fun L2 nL2=>?_⟩;have t4:=SB.new (ps:=[]) nL2 (.lst zs);have hL4:upd H3 L2 (.lst zs) L2=some (.lst zs):=Qt;have hD4:=t4.keep _ _ hD3 nmn;have hk4:=hk3.sb t4 NoLst.nil;have s4:=s3.trans (t4.nil (ps:=[D]));have LD:L2 ≠ D:=fun z=>by rw [z,hD3] at nL2; cases nL2
  generalize upd H3 L2 (.lst zs)=H4 at t4 hL4 hD4 hk4 s4;refine ⟨by show 3<=sizeLine; decide,fun T2 nT2=>?_⟩;have t5:=SB.new (ps:=[]) nT2 (.tup [kV (Sum.inr k.n),.bl k.w,.ref L2]);have hT5:SqT K (upd H4 T2 (.tup [kV (Sum.inr k.n),.bl k.w,.ref L2])) T2 [.str k.n,.bl k.w,.ref L2]:=SqT.of Qt;have hL5:=t5.keep _ _ hL4 nmn;have hD5:=t5.keep _ _ hD4 nmn;have hk5:=hk4.sb t5 NoLst.nil;have s5:=s4.trans (t5.nil (ps:=[D]));generalize upd H4 T2 (.tup [kV (Sum.inr k.n),.bl k.w,.ref L2])=H5 at t5 hT5 hL5 hD5 hk5 s5;have wl:=hk5.length;rw [List.length_take] at wl;refine ⟨_,hD5,by omega,?_⟩;have t6:=SB.set (ps:=[D]) hD5 (by simp) (.lst (ws++[.ref T2]));refine ⟨s5.trans t6,_,Qt,?_⟩;rw [Yg,ek];exact (hk5.sb t6 NoLst.self).append (.cons ⟨T2,L2,zs,rfl,t6.sqT hT5,t6.keep _ _ hL5 (by simpa using LD),(e4.sb s5 Ru.noList_enc).sb t6 Ru.noList_enc,by simpa using LD⟩ .nil)
 ·obtain ⟨s2,ws,hD2,hk2⟩:=h;rw [kl,Yh] at hk2;have hd2:=s2.frzs _ _ _ hdL;have s2':SB [] HL H2:=s2.drop nD;have hk3:KdAll K (upd H2 d (.dK (nKV b.names us))) [D] ws b:=hk2.thaw hd2;have hD3:upd H2 d (.dK (nKV b.names us)) D=some (.lst ws):=by rw [upd_ne (fun z=>dD z.symm)]; exact hD2
  have s3:=un _ s2';have nD0:=dm _ nD;refine z02 ⟨hd2,?_⟩;dsimp only;generalize upd H2 d (.dK (nKV b.names us))=H3 at hk3 hD3 s3;refine ⟨_,rfl,_,rfl,D,ws,rfl,SqL.of hD3,fun p np=>?_⟩;have t4:=SB.new (ps:=[]) np (.lst ws.reverse);have hp4:upd H3 p (.lst ws.reverse) p=some (.lst ws.reverse):=Qt;have hD4:=t4.keep _ _ hD3 nmn;have hk4:=(hk3.more np).sb t4 NoLst.nil;have np0:H p=none:=s3.dom _ np;generalize upd H3 p (.lst ws.reverse)=H4 at t4 hp4 hD4 hk4;refine ⟨by show 2<=sizeLine; decide,fun L nL=>?_⟩;have t5:=SB.new (ps:=[]) nL (.lst [.ref D,.ref p]);have hL5:upd H4 L (.lst [.ref D,.ref p]) L=some (.lst [.ref D,.ref p]):=Qt;have hp5:=t5.keep _ _ hp4 nmn;have hD5:=t5.keep _ _ hD4 nmn;have hk5:=hk4.sb t5 NoLst.nil;generalize upd H4 L (.lst [.ref D,.ref p])=H5 at t5 hL5 hp5 hD5 hk5;have s5:=(s3.trans t4).trans t5;cases t with
  | true=>exact ⟨_,rfl,.inr ⟨_,rfl,L,_,_,_,rfl,rfl,SqL.of hL5,atI_nat (j:=1) rfl,q p _ H5 s5 np0 hp5 ((hk5.less (bad':=[p]) (by simp)).rev)⟩⟩
  | false=>exact ⟨_,rfl,.inr ⟨_,rfl,L,_,_,_,rfl,rfl,SqL.of hL5,atI_nat (j:=0) rfl,q D _ H5 s5 nD0 hD5 (hk5.less (bad':=[D]) (by simp))⟩⟩
end
structure BelowL (l:Lad) (x:Lad × Int) (u:Nat) (e:Lad) (F:List (Lad × Int)):Prop where
 split:∃ G,F=l.ps.take u++G/\∀ g0,G.head?=some g0->g0.1.lt x.1=true\/(g0.1=x.1/\g0.2 < x.2)
 pw:F.Pairwise (fun p q=>q.1.lt p.1=true)
 low:∀ y ∈ F,e=y.1\/e.lt y.1=true
 el:e=x.1\/e.lt x.1=true
theorem zax:∀ (qs A C:List (Lad × Int)),(Lad.ofPs (qs++A)).lt (Lad.ofPs (qs++C))=(Lad.ofPs A).lt (Lad.ofPs C)
 | [],_,_=>rfl
 | q::r,A,C=>by
  show Lad.lt (.cons q.1 q.2 (Lad.ofPs (r++A))) (.cons q.1 q.2 (Lad.ofPs (r++C)))=_;rw [Lad.lt_cons,if_pos rfl,if_pos rfl];exact zax r A C
namespace BelowL
variable {l:Lad} {x:Lad × Int} {u:Nat} {e e3:Lad} {F:List (Lad × Int)} {mv:Int}
theorem lt (h:BelowL l x u e F) (ex:l.ps[u]?=some x):(Lad.ofPs F).lt l=true:=by
 obtain ⟨⟨G,rfl,hg⟩,_,_,_⟩:=h;have el:l.ps=l.ps.take u++x::l.ps.drop (u+1):=by
  obtain ⟨hj,ej⟩:=List.getElem?_eq_some_iff.mp ex;rw [<- ej,<- List.drop_eq_getElem_cons hj,List.take_append_drop]
 have h2:l=Lad.ofPs (l.ps.take u++x::l.ps.drop (u+1)):=by rw [<- el,Lad.ofPs_ps]
 have h3:=zax (l.ps.take u) G (x::l.ps.drop (u+1));rw [<- h2] at h3;rw [h3];cases G with
 | nil=>exact Lad.lt_nil_cons _ _ _
 | cons g r =>
  show Lad.lt (.cons g.1 g.2 _) (.cons x.1 x.2 _)=true;rw [Lad.lt_cons];rcases hg g rfl with h | ⟨h1,h2⟩
  ·rw [if_neg (Lad.lt_ne h)]; exact h
  ·rw [if_pos h1,if_neg (by omega)]; exact Ya h2
theorem step (h:BelowL l x u e F) (h3:e3.lt e=true):BelowL l x u e3 (F++[(e3,mv)]):=by
 obtain ⟨⟨G,hF,hg⟩,pw,low,el⟩:=h;have lx:e3.lt x.1=true:=by
  rcases el with rfl | z
  ·exact h3
  ·exact Lad.lt_trans _ _ _ h3 z
 have ly:∀ y ∈ F,e3.lt y.1=true:=fun y hy=>by
  rcases low y hy with z | z
  ·rw [<- z]; exact h3
  ·exact Lad.lt_trans _ _ _ h3 z
 refine ⟨⟨G++[(e3,mv)],by rw [hF,List.append_assoc],fun g0 h0=>?_⟩,List.pairwise_append.mpr ⟨pw,List.pairwise_singleton ..,fun a ha b hb=>by rw [Qy hb]; exact ly a ha⟩,fun y hy=>?_,.inr lx⟩
 ·cases G with
  | nil=>cases h0; exact .inl lx
  | cons g r=>exact hg g0 h0
 ·rcases Qw hy with hy | hy
  ·exact .inr (ly y hy)
  ·rw [Qy hy]; exact .inl rfl
theorem start {B:Int} (lok:l.Ok B) (ex:l.ps[u]?=some x):BelowL l x u x.1 (l.ps.take u)/\∀ lv,lv < x.2->BelowL l x u x.1 (l.ps.take u++[(x.1,lv)]):=by
 have el:l.ps=l.ps.take u++x::l.ps.drop (u+1):=by
  obtain ⟨hj,ej⟩:=List.getElem?_eq_some_iff.mp ex;rw [<- ej,<- List.drop_eq_getElem_cons hj,List.take_append_drop]
 have pw:=(Lad.ok_iff.mp lok).2;rw [el] at pw;obtain ⟨p1,_,p3⟩:=List.pairwise_append.mp pw;have hx:∀ y ∈ l.ps.take u,x.1.lt y.1=true:=fun y hy=>p3 y hy x (mcs ..);refine ⟨⟨⟨[],by simp,fun g0 h=>by simp at h⟩,p1,fun y hy=>.inr (hx y hy),.inl rfl⟩,fun lv hlv=>⟨⟨[(x.1,lv)],rfl,fun g0 h=>?_⟩,List.pairwise_append.mpr ⟨p1,List.pairwise_singleton ..,fun a ha b hb=>by rw [Qy hb]; exact hx a ha⟩,fun y hy=>?_,.inl rfl⟩⟩
 ·cases h; exact .inr ⟨rfl,hlv⟩
 ·rcases Qw hy with hy | hy
  ·exact .inr (hx y hy)
  ·rw [Qy hy]; exact .inl rfl
end BelowL
section
variable {P:Program} {w:World} {K:Qn} {mg:Str->Option Value} {base:Heap} {f:Addr} {fd:FuncData}
abbrev zjt:List Str:=["_law_pot_here","_law_ladder_here","_law_tail","_law_at","_law_exponent","_law_many","_law_left","_law_found","_law_turn"]
theorem sc_q16:FnScope zjt ["_law_pot_here","_law_ladder_here","_law_tail"] (defScope z62):=⟨rfl,rfl,rfl,by decide +kernel,rfl,by decide +kernel,by decide +kernel⟩
theorem z4e {ps:List Str} {k:Nat}:FnOk P w K mg base CX0 k f fd ps (z1x K 0):=z0v fun vs H Q E ⟨_,_,_,_,_,_,_,_,_,_,h,_⟩=>by omega
theorem zg7 {n:Nat} (B:BI mg) (G_q23:Got P w K mg base "_law_take" ["_law_pot_here","_law_many"] (1) (z19)) (G_q16:Got P w K mg base "_law_lesser" ["_law_pot_here","_law_ladder_here","_law_tail"] (n+2) (z1x K n)) (F:Fun K "_law_lesser" "_law_lesser" z62 f fd):FnOk P w K mg base CX0 (n+3) f fd ["_law_pot_here","_law_ladder_here","_law_tail"] (z1x K (n+1)):=by
 refine F.ok sc_q16 (fun vs H Q E h=>?_) (fun cdv A outer s H vs Q E hr h=>?_)
 ·obtain ⟨p,cl,v,l,t,BB,rfl,_⟩:=h
  rfl
 obtain ⟨p,cl,v,l,t,BB,rfl,hp,hv,ne,hdn,hd,⟨lok,hB9,hB2⟩,t3,hw,q⟩:=h;have hun2:=hunT hr;refine ⟨_,Qc (ps_set (i:=3) sc_q16.nd rfl (.inl rfl) (z00 G_q23 (hr.mono (by omega)) rfl (Qa (pv 0) (Qa (Qs call_len_seq rfl B.len PySem.boot_len (Qa (pv 1) Qb)) Qb))))
  (Qc (ps_asg (Qm Ql (pv 1) (pv 3) (fun _ _=>rfl)) (pg_tup rfl (Qi (pg_name (i:=4) sc_q16.nd rfl (.inl rfl)) (Qi (pg_name (i:=5) sc_q16.nd rfl (.inl rfl)) pgs_nil))))
  (Qc (ps_set (i:=6) sc_q16.nd rfl (.inl rfl) (Qm ix_list (pe_lst (Qa Qg (Qa (pe_op op_sub (pv 5) Qg) (Qa (z00 G_q23 (hr.mono (by omega)) rfl (Qa (pv 0) (Qa (pv 5) Qb))) Qb)))) (z00 G_q23 (hr.mono (by omega)) rfl (Qa (pv 0) (Qa Qg Qb))) (fun _ _=>rfl)))
  (Qc (ps_set (i:=7) sc_q16.nd rfl (.inl rfl) (pe_slice z12 (pv 1) po_none (po_some (pv 3))))
  (Qc (Qr (pt_cmpR op_gt (pv 6) Qg (nomark _)) (Qe (ps_set (i:=7) sc_q16.nd rfl (.inl rfl) (pe_op z0y (pv 7) (pe_tup (Qa (pe_tup (Qa (pv 4) (Qa (pv 6) Qb))) Qb))))) pss_nil)
  (Qc (ps_for PassesOwn.never rfl (pi_range1 rfl B.range (Qa (z00 G_q23 (hr.mono (by omega)) rfl (Qa (pv 0) (Qa (pe_op op_add (pv 2) Qg) Qb))) Qb)) (pg_name (i:=8) sc_q16.nd rfl (.inl rfl))
   (Qe (Qr (pt_cmpR (op_neD (by show A.units+3+64 < cLine; omega)) (pv 4) (pe_tup Qb) (nomark _)) (Qc (ps_set (i:=4) sc_q16.nd rfl (.inl rfl) (z00 G_q16 (hr.mono (by omega)) rfl (Qa (pv 0) (Qa (pv 4) (Qa Qg Qb)))))
  (Qe (ps_set (i:=7) sc_q16.nd rfl (.inl rfl) (pe_op z0y (pv 7) (pe_tup (Qa (pe_tup (Qa (pv 4) (Qa (Qm ix_list (pe_lst (Qa Qg (Qa (pe_op op_add Qg (z00 G_q23 (hr.mono (by omega)) rfl (Qa (pv 0) (Qa (pe_op op_pow Qg Qg) Qb)))) Qb))) (z00 G_q23 (hr.mono (by omega)) rfl (Qa (pv 0) (Qa Qg Qb))) (fun _ _=>rfl)) Qb))) Qb)))))) pss_nil)))
  (Qe (Qj (pv 7)))))))),?_⟩
 have szl:=sizeLine_eq;obtain ⟨a,xs,rfl,hs,hb⟩:=z05 hv;have xl:=hb.length;have lpos:0 < l.ps.length:=by
  cases l with
  | nil=>exact absurd rfl ne
  | cons e m r=>exact Nat.succ_pos _
 have lw:=l.wid_len;refine ⟨_,rfl,_,rfl,a,xs,rfl,.inr hs,p,cl,_,rfl,hp,by omega,by omega,fun r H3 r0 rm s3 hp3=>?_⟩;obtain ⟨u,rfl⟩:∃ x:Nat,r=(x:Int):=⟨r.toNat,by omega⟩;refine z02 ?_;have eu:xs[u]?=some xs[u]:=List.getElem?_eq_getElem (by omega);obtain ⟨x,ex,hx⟩:=hb.get eu;have xm:=Qu ex;have xd:=l.mem_deep x xm;have xw:=l.wid_mem x xm;obtain ⟨xn,x1,x2⟩:=(Lad.ok_iff.mp lok).1 x xm;have below:=BelowL.start lok ex;obtain ⟨ad,ev,ead,hsx,hev⟩:=z0b hx;rw [ead] at eu;refine ⟨_,rfl,_,rfl,a,_,_,_,rfl,rfl,s3.sqT hs,atI_nat eu,ad,_,rfl,s3.sqT hsx,rfl,_,_,rfl,_,_,rfl,rfl,?_⟩;refine ⟨_,rfl,_,_,rfl,rfl,?_⟩;refine ⟨_,rfl,_,rfl,p,cl,x.2,rfl,hp3,x1,Int.lt_of_lt_of_le x2 hB2,fun r4 H4 r40 r4m s4 hp4=>?_⟩;refine ⟨by show 3<=sizeLine; decide,fun L nL=>?_⟩;have t5:=SB.new (ps:=[]) nL (.lst [.int 0,.int (x.2-1),.int r4]);have hL5:upd H4 L (.lst [.int 0,.int (x.2-1),.int r4]) L=some (.lst [.int 0,.int (x.2-1),.int r4]):=Qt;have hp5:=hp4.sb t5;have Lp:L ≠ p:=fun z=>hp4.ne nL z.symm;generalize upd H4 L (.lst [.int 0,.int (x.2-1),.int r4])=H5 at t5 hL5 hp5;refine ⟨_,rfl,p,cl,3,rfl,hp5,by decide,by decide,fun r6 H6 r60 r63 s6 hp6=>?_⟩;obtain ⟨lv,elv,lv0,lv1⟩:∃ lv:Int,atI [V.int 0,V.int (x.2-1),V.int r4] r6=some (.int lv)/\0<=lv/\lv < x.2:=by
  rcases (by omega:r6=0\/r6=1\/r6=2) with rfl | rfl | rfl
  ·exact ⟨0,rfl,by omega,by omega⟩
  ·exact ⟨x.2-1,rfl,by omega,by omega⟩
  ·exact ⟨r4,rfl,r40,r4m⟩
 refine ⟨L,_,_,_,rfl,rfl,SqL.of (s6.keep _ _ hL5 (by simpa using Lp)),elv,?_⟩;refine z02 ?_;have s06:SB [p] H H6:=((s3.trans s4).trans t5.nil).trans s6;have s36:SB [p] H3 H6:=(s4.trans t5.nil).trans s6;refine ⟨_,rfl,_,rfl,_,rfl,a,xs,rfl,s06.sqT hs,fun c H7 s7 hc=>?_⟩;rw [z2q] at hc;have s07:=s06.trans (s7.nil (ps:=[p]));have hp7:=hp6.sb s7;have hev7:LA K H7 ev x.1:=LA.sb (LA.sb (LA.sb hev s3) s36) s7;have hb7:Bears K H7 Lad.pEnc (xs.take u) (l.ps.take u):=(hb.sb s07 Lad.pEnc_noList).take u;have hF7:LA K H7 (.ref c) (Lad.ofPs (l.ps.take u)):=z0q hc hb7;refine z02 ?_;have good:∀ y ∈ l.ps.take u,y.1.deep < l.deep/\y.1.wid<=l.wid/\y.1.Ok BB/\1<=y.2/\y.2 < BB:=fun y hy=>by
  have ym:=List.mem_of_mem_take hy;obtain ⟨a1,a2,a3⟩:=(Lad.ok_iff.mp lok).1 y ym;exact ⟨l.mem_deep y ym,l.wid_mem y ym,a1,a2,a3⟩
 have cat:∀ (fv ev:V) (F:List (Lad × Int)) (e:Lad) (z:Int) (G:Hp),LA K G fv (Lad.ofPs F)->LA K G ev e->F.length<=2000000->∀ (T1 T2:Addr) (G1 G2:Hp),SB [] G G1->SqT K G1 T1 [ev,.int z]->SqT K G1 T2 [.ref T1]->∃ A zs,fv=.ref A/\SqT K G1 A zs/\zs.length=F.length/\∀ (C:Addr) (G3:Hp),SB [] G1 G3->SqT K G3 C (zs++[.ref T1])->LA K G3 (.ref C) (Lad.ofPs (F++[(e,z)])):=by
  intro fv ev F e z G hF he hFl T1 T2 G1 _ s h1 h2;obtain ⟨A,zs,rfl,hA,hbA⟩:=z05 hF;rw [Lad.ps_ofPs] at hbA;refine ⟨A,zs,rfl,s.sqT hA,hbA.length,fun C G3 s3 hC=>z0q hC ?_⟩;exact ((hbA.sb s Lad.pEnc_noList).sb s3 Lad.pEnc_noList).append (.cons (Dp.tup (s3.sqT h1) (.cons (LA.sb (LA.sb he s) s3) (.cons (.int _) .nil))) .nil)
 refine z15 (fun σ' G=>∃ (fv:V) (F:List (Lad × Int)),σ'=[some (.ref p),some (.ref a),some (.int (t:Int)),some (.int (u:Int)),some ev,some (.int x.2),some (.int lv),some fv,none]/\SB [] H7 G/\LA K G fv (Lad.ofPs F)/\BelowL l x u x.1 F/\F.length<=l.ps.length/\∀ y ∈ F,y.1.deep < l.deep/\y.1.wid<=l.wid/\y.1.Ok BB/\1<=y.2/\y.2 < BB) (fun nx hnx=>?_) (fun σ' G h=>?_)
 ·refine ⟨_,rfl,_,_,rfl,rfl,_,rfl,?_⟩;by_cases h0:0 < lv
  ·rw [Ya h0];refine iteT ?_;refine ⟨_,rfl,_,rfl,_,rfl,by show 2<=sizeLine; decide,fun T1 n1=>?_⟩;have t9:=SB.new (ps:=[]) n1 (.tup [ev,.int lv]);have hT1:SqT K (upd H7 T1 (.tup [ev,.int lv])) T1 [ev,.int lv]:=SqT.of Qt;generalize upd H7 T1 (.tup [ev,.int lv])=H9 at t9 hT1;refine ⟨by show 1<=sizeLine; decide,fun T2 n2=>?_⟩;have t10:=SB.new (ps:=[]) n2 (.tup [.ref T1]);have hT2:SqT K (upd H9 T2 (.tup [.ref T1])) T2 [.ref T1]:=SqT.of Qt;have t910:=t9.trans t10;have hT1':=t10.sqT hT1;generalize upd H9 T2 (.tup [.ref T1])=H10 at t10 hT2 t910 hT1';obtain ⟨A,zs,eA,hA,zl,fin⟩:=cat _ _ _ _ _ _ hF7 hev7 (by rw [List.length_take]; omega) T1 T2 H10 H10 t910 hT1' hT2;cases eA;refine ⟨c,T2,zs,_,rfl,rfl,hA,hT2,by rw [zl,List.length_take,Yi]; omega,fun C G3 s3' hC=>?_⟩;refine hnx _ _ ⟨.ref C,l.ps.take u++[(x.1,lv)],rfl,t910.trans s3',fin C G3 s3' hC,below.2 lv (by omega),by rw [Yf,List.length_take,Yi]; omega,fun y hy=>?_⟩;rcases Qw hy with hy | hy
   ·exact good y hy
   ·rw [Qy hy]; exact ⟨xd,xw,xn,by show 1<=lv; omega,by show lv < _; omega⟩
  ·rw [Qz h0];exact iteF (hnx _ _ ⟨.ref c,l.ps.take u,rfl,SB.refl,hF7,below.1,by rw [List.length_take]; omega,good⟩)
 obtain ⟨fv,F,rfl,s8,hF8,Fb,Fl,Fg⟩:=h;have hp8:=hp7.sb s8;have hev8:=LA.sb hev7 s8;refine ⟨_,rfl,_,rfl,_,_,rfl,rfl,p,cl,_,rfl,hp8,by omega,by omega,fun tr H9 tr0 trm s9 hp9=>?_⟩;obtain ⟨tn,rfl⟩:∃ z:Nat,tr=(z:Int):=⟨tr.toNat,by omega⟩;refine ⟨(tn:Int),rfl,by omega,by omega,?_⟩;rw [Int.toNat_natCast];refine for_it (walk_range (lo:=0) (n:=tn)) (fun i σ G2=>SB [p] H9 G2/\PotC G2 p cl/\∃ (ev2 fv2:V) (e2:Lad) (F2:List (Lad × Int)) (o8:Option V),σ=[some (.ref p),some (.ref a),some (.int (t:Int)),some (.int (u:Int)),some ev2,some (.int x.2),some (.int lv),some fv2,o8]/\LA K G2 ev2 e2/\LA K G2 fv2 (Lad.ofPs F2)/\BelowL l x u e2 F2/\e2.deep < l.deep/\e2.wid<=l.wid+i/\e2.Ok BB/\F2.length<=l.ps.length+i/\∀ y ∈ F2,y.1.deep < l.deep/\y.1.wid<=l.wid+i/\y.1.Ok BB/\1<=y.2/\y.2 < BB)
  ⟨SB.refl,hp9,ev,fv,x.1,F,none,rfl,LA.sb hev8 s9,LA.sb hF8 s9,Fb,xd,by omega,xn,by omega,fun y hy=>by obtain ⟨a,b,c⟩:=Fg y hy; exact ⟨a,by omega,c⟩⟩ (fun _ _ _ _ _=>trivial) (fun i z σ G3 G2 hi h y=>?_) (fun σ G2 h=>?_)
 ·obtain ⟨s10,hp10,ev2,fv2,e2,F2,o8,rfl,he2,hF2,F2b,e2d,e2w,e2n,F2l,F2g⟩:=h;obtain ⟨rfl,rfl⟩:=y;have F2g':∀ y ∈ F2,y.1.deep < l.deep/\y.1.wid<=l.wid+(i+1)/\y.1.Ok BB/\1<=y.2/\y.2 < BB:=fun y hy=>by obtain ⟨a,b,c⟩:=F2g y hy; exact ⟨a,by omega,c⟩
  refine ⟨_,rfl,by show 0<=sizeLine; decide,fun e0 ne0=>?_⟩;have t11:=SB.new (ps:=[]) ne0 (.tup []);have he0:SqT K (upd G2 e0 (.tup [])) e0 []:=SqT.of Qt;have he2':=LA.sb he2 t11;have hF2':=LA.sb hF2 t11;have hp11:=hp10.sb t11;have s11:=s10.trans (t11.nil (ps:=[p]));generalize upd G2 e0 (.tup [])=H11 at t11 he0 he2' hF2' hp11 s11;refine ⟨e2.enc,Lad.enc .nil,he2',z10 he0,Lad.shaped_enc (by omega),Lad.shaped_enc (by decide),_,rfl,?_⟩;rw [Lad.eqv_enc];by_cases hn:e2=.nil
  ·rw [Ya hn];exact iteF ⟨s11,hp11,ev2,fv2,e2,F2,_,rfl,he2',hF2',F2b,e2d,by omega,e2n,by omega,F2g'⟩
  ·rw [Qz hn];refine iteT ?_;refine ⟨_,rfl,_,rfl,p,cl,ev2,e2,1,BB,rfl,hp11,he2',hn,by omega,by omega,⟨e2n,hB9,hB2⟩,by omega,by omega,fun ev3 e3 H12 s12 hp12 he3 e3d e3w e3n e3lt=>?_⟩;refine z02 ?_;refine ⟨_,rfl,_,rfl,?_⟩;refine ⟨_,rfl,10,9,rfl,rfl,⟨by decide,by decide⟩,p,cl,_,rfl,hp12,by decide,by decide,fun r13 H13 r130 r13m s13 hp13=>⟨_,_,rfl,rfl,?_⟩⟩;refine ⟨by show 2<=sizeLine; decide,fun L2 nL2=>?_⟩;have t14:=SB.new (ps:=[]) nL2 (.lst [.int 1,.int (1+r13)]);have hL14:upd H13 L2 (.lst [.int 1,.int (1+r13)]) L2=some (.lst [.int 1,.int (1+r13)]):=Qt;have hp14:=hp13.sb t14;have Lp2:L2 ≠ p:=fun z=>hp13.ne nL2 z.symm;generalize upd H13 L2 (.lst [.int 1,.int (1+r13)])=H14 at t14 hL14 hp14;refine ⟨_,rfl,p,cl,2,rfl,hp14,by decide,by decide,fun r15 H15 r150 r152 s15 hp15=>?_⟩;have e9:(10:Int) ^ (9:Int).toNat=10 ^ 9:=rfl;rw [e9] at r13m;obtain ⟨mv,emv,mv1,mv2⟩:∃ mv:Int,atI [V.int 1,V.int (1+r13)] r15=some (.int mv)/\1<=mv/\mv < BB:=by
    rcases (by omega:r15=0\/r15=1) with rfl | rfl
    ·exact ⟨1,rfl,by omega,by omega⟩
    ·exact ⟨1+r13,rfl,by omega,by omega⟩
   refine ⟨L2,_,_,_,rfl,rfl,SqL.of (s15.keep _ _ hL14 (by simpa using Lp2)),emv,?_⟩;have s12_15:SB [p] H12 H15:=(s13.trans t14.nil).trans s15;have s11_15:SB [p] H11 H15:=s12.trans s12_15;have he3':=LA.sb he3 s12_15;have hF15:=LA.sb hF2' s11_15;refine ⟨by show 2<=sizeLine; decide,fun T1 n1=>?_⟩;have t16:=SB.new (ps:=[]) n1 (.tup [ev3,.int mv]);have hT1:SqT K (upd H15 T1 (.tup [ev3,.int mv])) T1 [ev3,.int mv]:=SqT.of Qt;generalize upd H15 T1 (.tup [ev3,.int mv])=H16 at t16 hT1;refine ⟨by show 1<=sizeLine; decide,fun T2 n2=>?_⟩;have t17:=SB.new (ps:=[]) n2 (.tup [.ref T1]);have hT2:SqT K (upd H16 T2 (.tup [.ref T1])) T2 [.ref T1]:=SqT.of Qt;have t1617:=t16.trans t17;have hT1':=t17.sqT hT1;generalize upd H16 T2 (.tup [.ref T1])=H17 at t17 hT2 t1617 hT1';obtain ⟨A,zs,eA,hA,zl,fin⟩:=cat _ _ _ _ mv _ hF15 he3' (by omega) T1 T2 H17 H17 t1617 hT1' hT2;subst eA;refine ⟨A,T2,zs,_,rfl,rfl,hA,hT2,by rw [zl,Yi]; omega,fun C G18 s18 hC=>?_⟩;have sfin:SB [] H15 G18:=t1617.trans s18;refine ⟨s11.trans (s11_15.trans (sfin.nil (ps:=[p]))),hp15.sb sfin,ev3,.ref C,e3,F2++[(e3,mv)],_,rfl,LA.sb he3' sfin,fin C G18 s18 hC,F2b.step e3lt,by omega,by omega,e3n,by rw [Yf,Yi]; omega,fun y hy=>?_⟩;rcases Qw hy with hy | hy
   ·exact F2g' y hy
   ·rw [Qy hy]; exact ⟨by show e3.deep < _; omega,by show e3.wid<=_; omega,e3n,mv1,mv2⟩
 ·obtain ⟨s10,hp10,ev2,fv2,e2,F2,o8,rfl,he2,hF2,F2b,e2d,e2w,e2n,F2l,F2g⟩:=h;have tt:tn<=t:=by omega
  refine ⟨_,rfl,q fv2 (Lad.ofPs F2) G2 (((s07.trans (s8.nil (ps:=[p]))).trans s9).trans s10) hp10 hF2 (Lad.deep_le fun y hy=>(F2g y hy).1) (Lad.wid_le (by omega) fun y hy=>by have:=(F2g y hy).2.1; omega) (Lad.ok_ps.mpr ⟨fun y hy=>(F2g y hy).2.2,F2b.pw⟩) (F2b.lt ex)⟩
abbrev zjc:List Str:=["_law_ladder_here","_law_found","_law_exponent","_law_many","_law_within"]
theorem sc_q22:FnScope zjc ["_law_ladder_here"] (defScope z6o):=⟨rfl,rfl,rfl,by decide +kernel,rfl,by decide +kernel,by decide +kernel⟩
theorem z4s {ps:List Str} {k:Nat}:FnOk P w K mg base CX0 k f fd ps (z1n K 0):=z0v fun vs H Q E ⟨v,l,_,_,h,_⟩=>by omega
theorem ze7 {n:Nat} (B:BI mg) (G_q22:Got P w K mg base "_law_sizes" ["_law_ladder_here"] (n) (z1n K n)) (F:Fun K "_law_sizes" "_law_sizes" z6o f fd):FnOk P w K mg base CX0 (n+1) f fd ["_law_ladder_here"] (z1n K (n+1)):=by
 refine F.ok sc_q22 (fun vs H Q E h=>?_) (fun cdv A outer s H vs Q E hr h=>?_)
 ·obtain ⟨v,l,rfl,_⟩:=h
  rfl
 obtain ⟨v,l,rfl,hv,hd,hd2,q⟩:=h;have hun2:=hunT hr;refine ⟨_,Qc (ps_set (i:=1) sc_q22.nd rfl (.inl rfl) (pe_lst (Qa Qg (Qa Qg (Qa Qg Qb)))))
  (Qc (ps_for PassesOwn.never rfl (pi_tup (pv 0)) (pg_tup rfl (Qi (pg_name (i:=2) sc_q22.nd rfl (.inl rfl)) (Qi (pg_name (i:=3) sc_q22.nd rfl (.inl rfl)) pgs_nil)))
   (Qc (ps_set (i:=4) sc_q22.nd rfl (.inl rfl) (z00 G_q22 (hr.mono (by omega)) rfl (Qa (pv 2) Qb)))
  (Qe (ps_set (i:=1) sc_q22.nd rfl (.inl rfl) (pe_lst (Qa (pe_op op_add (pe_op op_add (Qm ix_list (pv 1) Qg (fun _ _=>rfl)) Qg) (Qm ix_list (pv 4) Qg (fun _ _=>rfl))) (Qa (Qs (call_max2 rfl) rfl B.max boot_max (Qa (Qm ix_list (pv 1) Qg (fun _ _=>rfl)) (Qa (pe_op op_add Qg (Qm ix_list (pv 4) Qg (fun _ _=>rfl))) Qb))) (Qa (Qs (zae rfl) rfl B.max boot_max (Qa (Qm ix_list (pv 1) Qg (fun _ _=>rfl)) (Qa (pv 3) (Qa (Qm ix_list (pv 4) Qg (fun _ _=>rfl)) Qb)))) Qb))))))))
  (Qe (Qj (pv 1)))),?_⟩
 have szl:=sizeLine_eq;obtain ⟨a,xs,rfl,hs,hb⟩:=z05 hv;have bl:=hb.length;refine ⟨by show 3<=sizeLine; decide,fun D hD=>?_⟩;have t1:=SB.new (ps:=[]) hD (.lst [.int 0,.int 0,.int 0]);refine z02 ?_;refine ⟨_,rfl,a,rfl,⟨xs,t1.sqT hs⟩,?_⟩;refine for_it (walk_tup (xs:=xs)) (fun i σ H2=>SB [] H H2/\∃ (E:Addr) (m:Int) (o2 o3 o4:Option V),σ=[some (.ref a),some (.ref E),o2,o3,o4]/\H E=none/\H2 E=some (.lst [.int ((Lad.ofPs (l.ps.take i)).parts:Nat),.int ((Lad.ofPs (l.ps.take i)).deep:Nat),.int m])) ⟨t1,D,0,none,none,none,rfl,hD,Qt⟩ (fun i σ H2 hi h2=>h2.1.sqT hs) (fun i x σ H2 H' hi h2 y=>?_) (fun σ H2 h2=>?_)
 ·obtain ⟨s2,E,m,o2,o3,o4,rfl,nE,hE2⟩:=h2;obtain ⟨rfl,ey⟩:=y;obtain ⟨p,ep,hpd⟩:=hb.get ey;have pm:=Qu ep;have pd:=l.mem_deep p pm;obtain ⟨ad,ux,rfl,hs2,hla⟩:=z0b hpd;refine ⟨ad,_,rfl,s2.sqT hs2,rfl,_,_,rfl,_,_,rfl,rfl,?_⟩;refine ⟨_,rfl,ux,p.1,rfl,hla.sb s2,by omega,by omega,fun d m' H3 s3 nd hd3=>?_⟩;refine z02 ?_;have hE3:=s3.keep _ _ hE2 nmn;refine ⟨_,rfl,E,_,_,_,rfl,rfl,SqL.of hE3,atI_nat (j:=0) rfl,_,_,rfl,rfl,_,rfl,d,_,_,_,rfl,rfl,SqL.of hd3,atI_nat (j:=0) rfl,_,_,rfl,rfl,?_⟩;refine ⟨_,rfl,E,_,_,_,rfl,rfl,SqL.of hE3,atI_nat (j:=1) rfl,_,rfl,d,_,_,_,rfl,rfl,SqL.of hd3,atI_nat (j:=1) rfl,_,_,rfl,rfl,_,_,rfl,?_⟩;refine ⟨_,rfl,E,_,_,_,rfl,rfl,SqL.of hE3,atI_nat (j:=2) rfl,_,rfl,_,rfl,d,_,_,_,rfl,rfl,SqL.of hd3,atI_nat (j:=2) rfl,_,_,_,rfl,fun M=>?_⟩;refine ⟨by show 3<=sizeLine; decide,fun F nF=>?_⟩;have t4:=SB.new (ps:=[]) nF (.lst [.int (((Lad.ofPs (l.ps.take i)).parts:Nat)+1+(p.1.parts:Nat)),.int (if 1+((p.1.deep:Nat):Int) > ((Lad.ofPs (l.ps.take i)).deep:Nat) then 1+((p.1.deep:Nat):Int) else ((Lad.ofPs (l.ps.take i)).deep:Nat)),.int M]);refine ⟨(s2.trans s3).trans t4,F,M,_,_,_,rfl,(s2.trans s3).dom _ nF,?_⟩;have e1:l.ps.take (i+1)=l.ps.take i++[p]:=by rw [Yg,ep]; rfl
  have e2:((((Lad.ofPs (l.ps.take i)).parts:Nat):Int)+1+(p.1.parts:Nat))=((Lad.ofPs (l.ps.take i++[p])).parts:Nat):=by rw [Lad.parts_snoc]; omega
  have e3:(if 1+((p.1.deep:Nat):Int) > ((Lad.ofPs (l.ps.take i)).deep:Nat) then 1+((p.1.deep:Nat):Int) else ((Lad.ofPs (l.ps.take i)).deep:Nat))=((Lad.ofPs (l.ps.take i++[p])).deep:Nat):=by rw [Lad.deep_snoc]; split <;> omega
  rw [e1,<- e2,<- e3];exact Qt
 ·obtain ⟨s2,E,m,o2,o3,o4,rfl,nE,hE2⟩:=h2;rw [bl,Yh,Lad.ofPs_ps] at hE2;exact ⟨_,rfl,q E m H2 s2 nE hE2⟩
abbrev zh9:List Str:=["_law_pot_here","_law_ladder_here","_law_way","_law_found","_law_here"]
theorem sc_q12:FnScope zh9 ["_law_pot_here","_law_ladder_here"] (defScope z6q):=⟨rfl,rfl,rfl,by decide +kernel,rfl,by decide +kernel,by decide +kernel⟩
theorem zgb (B:BI mg) (G_q23:Got P w K mg base "_law_take" ["_law_pot_here","_law_many"] (1) (z19)) (G_q16:Got P w K mg base "_law_lesser" ["_law_pot_here","_law_ladder_here","_law_tail"] (33) (z1x K 31)) (G_q22:Got P w K mg base "_law_sizes" ["_law_ladder_here"] (40) (z1n K 40)) (F:Fun K "_law_goal_here" "_law_goal_here" z6q f fd):FnOk P w K mg base CX0 (42) f fd ["_law_pot_here","_law_ladder_here"] (z6y K):=by
 refine F.ok sc_q12 (fun vs H Q E h=>?_) (fun cdv A outer s H vs Q E hr h=>?_)
 ·obtain ⟨p,cl,v,l,BB,rfl,_⟩:=h
  rfl
 obtain ⟨p,cl,v,l,BB,rfl,hp,hv,ne,hd,lw,⟨lok,hB9,hB2⟩,q⟩:=h;have hun2:=hunT hr;refine ⟨_,Qc (ps_set (i:=2) sc_q12.nd rfl (.inl rfl) (z00 G_q23 (hr.mono (by omega)) rfl (Qa (pv 0) (Qa Qg Qb))))
  (Qc (ps_set (i:=3) sc_q12.nd rfl (.inl rfl) (pe_tup Qb))
  (Qc (Qr (pt_cmpR op_gt (pv 2) Qg (nomark _)) (Qe (ps_set (i:=3) sc_q12.nd rfl (.inl rfl) (z00 G_q16 (hr.mono (by omega)) rfl (Qa (pv 0) (Qa (pv 1) (Qa Qg Qb)))))) pss_nil)
  (Qc (Qr (PW.pt (pw_and (pt_cmpR op_eq (pv 2) Qg (nomark _)) (pw_and1 (pt_cmpR (op_neD (by show A.units+3+64 < cLine; omega)) (pv 3) (pe_tup Qb) (nomark _))))) (Qe (ps_set (i:=3) sc_q12.nd rfl (.inl rfl) (z00 G_q16 (hr.mono (by omega)) rfl (Qa (pv 0) (Qa (pv 3) (Qa Qg Qb)))))) pss_nil)
  (Qc (ps_set (i:=4) sc_q12.nd rfl (.inl rfl) (z00 G_q22 (hr.mono (by omega)) rfl (Qa (pv 3) Qb)))
  (Qc (Qr (PW.pt (pw_or (pt_cmpR op_gt (Qm ix_list (pv 4) Qg (fun _ _=>rfl)) Qg (nomark _)) (pw_or (pt_cmpR op_gt (Qm ix_list (pv 4) Qg (fun _ _=>rfl)) Qg (nomark _)) (pw_or1 (pt_cmpR op_ge (Qm ix_list (pv 4) Qg (fun _ _=>rfl)) (pe_op op_pow Qg Qg) (nomark _)))))) (Qe (Qj (pe_tup Qb))) pss_nil)
  (Qe (Qj (pv 3)))))))),?_⟩
 have szl:=sizeLine_eq;have nilt:Lad.lt .nil l=true:=by
  cases l with
  | nil=>exact absurd rfl ne
  | cons e m r=>exact Lad.lt_nil_cons _ _ _
 refine ⟨_,rfl,p,cl,5,rfl,hp,by decide,by decide,fun r1 H1 r10 r15 s1 hp1=>?_⟩;refine z02 ?_;refine ⟨by show 0<=sizeLine; decide,fun e0 ne0=>?_⟩;have t2:=SB.new (ps:=[]) ne0 (.tup []);have he2:SqT K (upd H1 e0 (.tup [])) e0 []:=SqT.of Qt;have hp2:=hp1.sb t2;have s02:=s1.trans (t2.nil (ps:=[p]));generalize upd H1 e0 (.tup [])=H2 at t2 he2 hp2 s02;refine z02 ?_;refine z15 (fun σ' G=>∃ (fv:V) (F:Lad),σ'=[some (.ref p),some v,some (.int r1),some fv,none]/\SB [p] H G/\PotC G p cl/\LA K G fv F/\F.deep<=29/\F.wid<=900003/\F.Ok BB/\F.lt l=true) (fun nx hnx=>?_) (fun σ' G h=>?_)
 ·refine ⟨_,rfl,_,_,rfl,rfl,_,rfl,?_⟩;cases decide ((0:Int) < r1) with
  | true=>exact iteT ⟨_,rfl,_,rfl,p,cl,v,l,3,BB,rfl,hp2,LA.sb hv s02,ne,by omega,by omega,⟨lok,hB9,hB2⟩,by omega,by omega,fun x k H3 s3 hp3 hk kd kw kn kl=>hnx _ _ ⟨x,k,rfl,s02.trans s3,hp3,hk,by omega,by omega,kn,kl⟩⟩
  | false=>exact iteF (hnx _ _ ⟨.ref e0,.nil,rfl,s02,hp2,z10 he2,by decide,by decide,trivial,nilt⟩)
 obtain ⟨fv,F,rfl,s3,hp3,hF,Fd,Fw,Fn,Fl⟩:=h;refine z15 (fun σ' G2=>∃ (fv:V) (F:Lad),σ'=[some (.ref p),some v,some (.int r1),some fv,none]/\SB [p] H G2/\PotC G2 p cl/\LA K G2 fv F/\F.deep<=29/\F.Ok BB/\F.lt l=true) (fun nx hnx=>?_) (fun σ' G2 h=>?_)
 ·refine ⟨_,rfl,rfl,_,rfl,?_⟩;cases decide (V.int r1=V.int 1) with
  | false=>exact iteF (hnx _ _ ⟨fv,F,rfl,s3,hp3,hF,Fd,Fn,Fl⟩)
  | true =>
   refine iteT ⟨_,rfl,by show 0<=sizeLine; decide,fun e1 ne1=>?_⟩;have t4:=SB.new (ps:=[]) ne1 (.tup []);have he4:SqT K (upd G e1 (.tup [])) e1 []:=SqT.of Qt;have hF4:=LA.sb hF t4;have hp4:=hp3.sb t4;have s04:=s3.trans (t4.nil (ps:=[p]));generalize upd G e1 (.tup [])=H4 at t4 he4 hF4 hp4 s04;refine ⟨F.enc,Lad.enc .nil,hF4,z10 he4,Lad.shaped_enc (by omega),Lad.shaped_enc (by decide),_,rfl,?_⟩;rw [Lad.eqv_enc];by_cases hn:F=.nil
   ·rw [Ya hn];exact iteF (hnx _ _ ⟨fv,F,rfl,s04,hp4,hF4,Fd,Fn,Fl⟩)
   ·rw [Qz hn];exact iteT ⟨_,rfl,_,rfl,p,cl,fv,F,1,BB,rfl,hp4,hF4,hn,by omega,by omega,⟨Fn,hB9,hB2⟩,by omega,by omega,fun x k H5 s5 hp5 hk kd kw kn kl=>hnx _ _ ⟨x,k,rfl,s04.trans s5,hp5,hk,by omega,kn,Lad.lt_trans _ _ _ kl Fl⟩⟩
 obtain ⟨fv,F,rfl,s4,hp4,hF,Fd,Fn,Fl⟩:=h;refine ⟨_,rfl,fv,F,rfl,hF,by omega,by omega,fun d m H5 s5 nd hd5=>?_⟩;refine z02 ?_;have out:∀ G,SB [] H5 G->∃ a,True:=fun _ _=>⟨0,trivial⟩;have s05:=s4.trans (s5.nil (ps:=[p]));have hp5:=hp4.sb s5;have none_:∀ (G:Hp),SB [] H5 G->∀ e,G e=none->Q (.ref e) (upd G e (.tup [])):=fun G sG e ne=>by
  have t:=SB.new (ps:=[]) ne (.tup []);exact q (.ref e) .nil _ ((s05.trans (sG.nil (ps:=[p]))).trans (t.nil (ps:=[p]))) ((hp5.sb sG).sb t) (z10 (SqT.of Qt)) (by decide) (by decide) trivial nilt
 refine ⟨_,rfl,d,_,_,_,rfl,rfl,SqL.of hd5,atI_nat (j:=0) rfl,_,_,rfl,rfl,_,rfl,?_⟩;by_cases h1:60 < F.parts
 ·rw [Ya (show (60:Int) < (F.parts:Nat) by omega)];exact iteT (iteT ⟨by show 0<=sizeLine; decide,fun e ne=>none_ H5 SB.refl e ne⟩)
 rw [Qz (show ¬ (60:Int) < (F.parts:Nat) by omega)];refine iteF ⟨_,rfl,d,_,_,_,rfl,rfl,SqL.of hd5,atI_nat (j:=1) rfl,_,_,rfl,rfl,_,rfl,?_⟩;by_cases h2:12 < F.deep
 ·rw [Ya (show (12:Int) < (F.deep:Nat) by omega)];exact iteT (iteT ⟨by show 0<=sizeLine; decide,fun e ne=>none_ H5 SB.refl e ne⟩)
 rw [Qz (show ¬ (12:Int) < (F.deep:Nat) by omega)];refine iteF ⟨_,rfl,d,_,_,_,rfl,rfl,SqL.of hd5,atI_nat (j:=2) rfl,10,60,rfl,rfl,⟨by decide,by decide⟩,_,_,rfl,rfl,_,rfl,?_⟩;cases decide ((10:Int) ^ (60:Int).toNat<=m) with
 | true=>exact iteT ⟨by show 0<=sizeLine; decide,fun e ne=>none_ H5 SB.refl e ne⟩
 | false=>exact iteF ⟨_,rfl,q fv F H5 s05 hp5 (LA.sb hF s5) (by omega) (by omega) Fn Fl⟩
abbrev ziv:List Str:=["_law_book","_law_grove","_law_told","_law_goal_here","_law_number","_law_here","_law_kind","_law_at","_law_found"]
theorem sc_q21:FnScope ziv ["_law_book","_law_grove","_law_told","_law_goal_here"] (defScope z5y):=⟨rfl,rfl,rfl,by decide +kernel,rfl,by decide +kernel,by decide +kernel⟩
theorem ze4 (B:BI mg) (G_q20:Got P w K mg base "_law_rank" ["_law_book","_law_known","_law_grove"] (220) (z29 K 177)) (G_q11:Got P w K mg base "_law_fall" ["_law_book","_law_grove","_law_place","_law_rule","_law_number"] (21) (z1y K 20)) (G_q15:Got P w K mg base "_law_less" ["_law_one","_law_other"] (40) (z0z K 40)) (F:Fun K "_law_reaches" "_law_reaches" z5y f fd):FnOk P w K mg base CX0 (225) f fd ["_law_book","_law_grove","_law_told","_law_goal_here"] (z8p K):=by
 refine F.ok sc_q21 (fun vs H Q E h=>?_) (fun cdv A outer s H vs Q E hr h=>?_)
 ·obtain ⟨d,p,u,y,b,ρ,ns,lv,g,t,pl,i,r,m,C,rfl,_⟩:=h
  rfl
 obtain ⟨d,p,u,y,b,ρ,ns,lv,g,t,pl,i,r,m,C,rfl,hd,ok,R,⟨hg,go,C1,C2,gn,gd,gp⟩,⟨hy,td⟩,⟨a,hT,hA⟩,⟨m0,k,kd,hb,eg,er,hreach⟩,mB,⟨⟨fit1,lf1⟩,fit2,lf2⟩,q⟩:=h;have hun2:=hunT hr;refine ⟨_,Qc (Qr (PW.pt (pw_or (Qp (Qo (z0w B (pv 2) B.tuple boot_tuple))) (pw_or (pt_cmpR op_ne (Qs call_len_seq rfl B.len PySem.boot_len (Qa (pv 2) Qb)) Qg (nomark _)) (pw_or1 (Qp (Qo (z0w B (Qm Ql (pv 2) Qg (fun _ _=>rfl)) B.tuple boot_tuple))))))) (Qe (Qj pe_bl)) pss_nil)
  (Qc (ps_for PassesOwn.never rfl (pi_tup (pe_op z0y (Qm Ql (pv 2) Qg (fun _ _=>rfl)) (pe_slice z12 (pv 2) (po_some Qg) po_none))) (pg_name (i:=4) sc_q21.nd rfl (.inl rfl))
   (Qe (Qr (PW.pt (pw_or (Qp (Qo (z0w B (pv 4) B.int boot_int))) (pw_or (Qo (z0w B (pv 4) B.bool boot_bool)) (pw_or1 (pt_cmpR op_lt (pv 4) Qg (nomark _)))))) (Qe (Qj pe_bl)) pss_nil)))
  (Qc (ps_set (i:=5) sc_q21.nd rfl (.inl rfl) (pv 1))
  (Qc (ps_set (i:=6) sc_q21.nd rfl (.inl rfl) pe_str)
  (Qc (ps_for PassesOwn.never rfl (pi_tup (Qm Ql (pv 2) Qg (fun _ _=>rfl))) (pg_name (i:=7) sc_q21.nd rfl (.inl rfl))
   (Qc (Qr (pt_cmpR op_ge (pv 7) (Qs call_len_seq rfl B.len PySem.boot_len (Qa (pv 5) Qb)) (nomark _)) (Qe (Qj pe_bl)) pss_nil)
  (Qe (ps_asg (Qm Ql (Qm Ql (pv 5) (pv 7) (fun _ _=>rfl)) Qg (fun _ _=>rfl)) (pg_tup rfl (Qi (pg_name (i:=6) sc_q21.nd rfl (.inl rfl)) (Qi (pg_name (i:=5) sc_q21.nd rfl (.inl rfl)) pgs_nil)))))))
  (Qc (Qr (PW.pt (pw_or (pt_cmpR op_eq (pv 6) pe_str (nomark _)) (pw_or (pt_cmpR (zg2 (by show A.units+3+195 < cLine; omega)) (pv 5) (pe_tup Qb) (nomark _)) (pw_or1 (pt_cmpR op_gt (Qm Ql (pv 2) Qg (fun _ _=>rfl)) (Qs call_len_seq rfl B.len PySem.boot_len (Qa (Qm Ql (pe_dget (by show A.units+3+1 < cLine; omega) (pv 0) (pv 6) (fun _ _=>rfl)) Qg (fun _ _=>rfl)) Qb)) (nomark _)))))) (Qe (Qj pe_bl)) pss_nil)
  (Qc (ps_set (i:=8) sc_q21.nd rfl (.inl rfl) (z00 G_q20 (hr.mono (by omega)) rfl (Qa (pv 0) (Qa pe_dnewK (Qa (z00 G_q11 (hr.mono (by omega)) rfl (Qa (pv 0) (Qa (pv 1) (Qa (Qm Ql (pv 2) Qg (fun _ _=>rfl)) (Qa (Qm Ql (pv 2) Qg (fun _ _=>rfl)) (Qa (Qm Ql (pv 2) Qg (fun _ _=>rfl)) Qb)))))) Qb)))))
  (Qe (Qj (pe_and (pe_not (z00 G_q15 (hr.mono (by omega)) rfl (Qa (pv 8) (Qa (pv 3) Qb)))) (pe_one (z00 G_q15 (hr.mono (by omega)) rfl (Qa (pv 8) (Qa (z00 G_q20 (hr.mono (by omega)) rfl (Qa (pv 0) (Qa pe_dnewK (Qa (pv 1) Qb)))) Qb))))))))))))),?_⟩
 have szl:=sizeLine_eq;have plen:=Gr.bare_len hb;have kns:k ∈ ns:=Gr.bare_named gn hb;obtain ⟨km,kn⟩:=Bk.get_some eg;have kok:=(ok.kd kd km).1;have r4:=(ok.kd kd km).2.1;obtain ⟨rok,rn1,rn2⟩:=Gr.ru_facts R.toGoods kns eg (Qu er);refine ⟨_,rfl,_,_,"tuple",true,rfl,z2h hT,by decide +kernel,_,rfl,iteF ?_⟩;refine ⟨_,rfl,p,_,rfl,.inr hT,rfl,_,rfl,iteF ?_⟩;refine ⟨_,rfl,p,_,_,_,rfl,rfl,hT,atI_nat (j:=0) rfl,_,_,"tuple",true,rfl,z2h hA,by decide +kernel,_,rfl,iteF ?_⟩;refine ⟨_,rfl,p,_,_,_,rfl,rfl,hT,atI_nat (j:=0) rfl,_,rfl,1,rfl,p,_,rfl,hT,fun c H1 s1 hc=>?_⟩;have hc:SqT K H1 c [.int (i:Nat),.int m]:=hc;refine ⟨a,c,_,_,rfl,rfl,s1.sqT hA,hc,by rw [Ye]; show _+2<=_; omega,fun c2 H2 s2 hc2=>?_⟩;have s02:=s1.trans s2;have allz:∀ x ∈ (pl.map fun n:Nat=>V.int (n:Int))++[V.int (i:Nat),V.int m],∃ z:Int,x=.int z/\0<=z:=fun x hx=>by
  rcases Qw hx with hx | hx
  ·obtain ⟨n,_,rfl⟩:=Qx hx;exact ⟨n,rfl,by omega⟩
  ·rcases Qv hx with rfl | hx
   ·exact ⟨_,rfl,by omega⟩
   ·rw [Qy hx]; exact ⟨m,rfl,m0⟩
 refine ⟨c2,rfl,⟨_,hc2⟩,?_⟩;refine for_it (walk_tup (xs:=(pl.map fun n:Nat=>V.int (n:Int))++[V.int (i:Nat),V.int m])) (fun j σ H3=>SB [] H2 H3/\∃ o4:Option V,σ=[some (.ref d),some u,some (.ref p),some y,o4,none,none,none,none]) ⟨SB.refl,none,rfl⟩ (fun j σ H3 hj h=>h.1.sqT hc2) (fun j x σ H3' H3 hj h yy=>?_) (fun σ H3 h=>?_)
 ·obtain ⟨s3,o4,rfl⟩:=h;obtain ⟨rfl,ex⟩:=yy;obtain ⟨z,rfl,z0⟩:=allz x (Qu ex);refine z2l ?_;refine ⟨_,rfl,_,_,"int",true,rfl,.base (.int z),by decide +kernel,_,rfl,iteF ?_⟩;refine ⟨_,rfl,_,_,"int",false,rfl,.base (.int z),by decide +kernel,_,rfl,iteF ?_⟩;refine ⟨_,rfl,_,_,rfl,rfl,_,rfl,?_⟩;rw [Qz (show ¬ z < 0 by omega)];exact iteF ⟨s3,_,rfl⟩
 obtain ⟨s3,o4,rfl⟩:=h;have s03:=s02.trans s3;refine ⟨_,rfl,?_⟩;refine z02 (z02 ?_);refine ⟨_,rfl,p,_,_,_,rfl,rfl,s03.sqT hT,atI_nat (j:=0) rfl,a,rfl,⟨_,s03.sqT hA⟩,?_⟩;refine for_it (walk_tup (xs:=pl.map fun n:Nat=>V.int (n:Int))) (fun j σ H4=>SB [] H3 H4/\∃ (hv:V) (h:Gr) (kz:Str) (o7:Option V),σ=[some (.ref d),some u,some (.ref p),some y,o4,some hv,some (.str kz),o7,none]/\GA K H4 hv h/\h.parts<=60/\((j < pl.length/\Gr.bareAt h (pl.drop j)=some k)\/(j=pl.length/\h=.nil/\kz=k)))
  ⟨SB.refl,u,g,_,none,rfl,hg.sb s03,gp,.inl ⟨by have:=List.length_pos_iff.mpr (Gr.bare_ne hb); omega,hb⟩⟩ (fun j σ H4 hj h=>(s03.trans h.1).sqT hA) (fun j x σ H4' H4 hj h yy=>?_) (fun σ H4 h=>?_)
 ·obtain ⟨s4,hv,h,kz,o7,rfl,hgh,hp,hst⟩:=h;obtain ⟨rfl,ex⟩:=yy;rw [Ye] at hj;rw [List.getElem?_map] at ex;obtain ⟨n,en,rfl⟩:=Option.map_eq_some_iff.mp ex;obtain ⟨hj2,hbr⟩:j < pl.length/\Gr.bareAt h (pl.drop j)=some k:=by
   rcases hst with h | h
   ·exact h
   ·omega
  have ed:pl.drop j=n::pl.drop (j+1):=by
   obtain ⟨h1,h2⟩:=List.getElem?_eq_some_iff.mp en;rw [<- h2]; exact List.drop_eq_getElem_cons h1
  rw [ed] at hbr;obtain ⟨x,epx,nxt⟩:∃ x,h.ps[n]?=some x/\((j+1 < pl.length/\Gr.bareAt x.1.2 (pl.drop (j+1))=some k)\/(j+1=pl.length/\x.1.2=.nil/\x.1.1=k)):=by
   by_cases hr:pl.drop (j+1)=[]
   ·rw [hr] at hbr;obtain ⟨x,e1,e2⟩:=Gr.bare_one hbr;have:=congrArg List.length hr;rw [List.length_drop,List.length_nil] at this;exact ⟨x,e1,.inr ⟨by omega,by rw [e2],by rw [e2]⟩⟩
   ·obtain ⟨x,e1,e2⟩:=Gr.bare_more hr hbr;have:=List.length_pos_iff.mpr hr;rw [List.length_drop] at this;exact ⟨x,e1,.inl ⟨by omega,e2⟩⟩
  obtain ⟨ga,gs,rfl,hga,hgb⟩:=z0u hgh;have gl:=hgb.length;have nl:=(List.getElem?_eq_some_iff.mp epx).1;obtain ⟨vp,evp,hpd⟩:=hgb.at epx;obtain ⟨ad,bd,ux,rfl,h1,h2,h3,h4⟩:=z0h hpd;have xp:=h.mem_parts x (Qu epx);refine z2l ?_;refine ⟨_,rfl,_,rfl,ga,gs,rfl,.inr hga,_,_,rfl,rfl,_,rfl,?_⟩;rw [Qz (show ¬ ((gs.length:Nat):Int)<=(n:Int) by omega)];refine iteF ?_;refine ⟨_,rfl,_,rfl,ga,_,_,_,rfl,rfl,hga,atI_nat evp,ad,_,_,_,rfl,rfl,h1,atI_nat (j:=0) rfl,bd,_,rfl,h2,rfl,_,_,rfl,_,_,rfl,rfl,?_⟩;exact ⟨s4,ux,x.1.2,x.1.1,_,rfl,h3,by omega,nxt⟩
 obtain ⟨s4,hv,h,kz,o7,rfl,hgh,hp,hst⟩:=h;rw [Ye] at hst;obtain ⟨rfl,rfl⟩:h=.nil/\kz=k:=by
  rcases hst with h | h
  ·omega
  ·exact h.2
 have s04:=s03.trans s4;refine ⟨_,rfl,rfl,_,rfl,?_⟩;have kne:kz ≠ "":=fun z=>by
  have:=kok.1;rw [kn,z] at this;exact absurd this (by decide)
 rw [show decide (V.str kz=V.str "")=false from Qz (fun z=>kne (by injection z))];refine iteF ?_;refine ⟨_,rfl,by show 0<=sizeLine; decide,fun e0 ne0=>?_⟩;have t5:=SB.new (ps:=[]) ne0 (.tup []);have he5:SqT K (upd H4 e0 (.tup [])) e0 []:=SqT.of Qt;have hgh5:=GA.sb hgh t5;have s05:=s04.trans t5;generalize upd H4 e0 (.tup [])=H5 at t5 he5 hgh5 s05;refine ⟨(Gr.nil).enc,.tuple [],hgh5,.tup he5 .nil,Gr.wd_nil,Gr.wd_nil,_,rfl,?_⟩;rw [Gr.enc_eq_nil,Ya rfl];refine iteF ?_;obtain ⟨vv,hvv,tt,l,us,rfl,htt,hl,hbb⟩:=(hd.sb0 s05).val eg;have ul:=hbb.length;have il:i<=kd.rs.length:=by
  have:=(List.getElem?_eq_some_iff.mp er).1;rw [Yk] at this; omega
 refine ⟨_,rfl,p,_,_,_,rfl,rfl,s05.sqT hT,atI_nat (j:=1) rfl,_,rfl,_,rfl,d,_,rfl,hvv,tt,_,_,_,rfl,rfl,htt,atI_nat (j:=1) rfl,l,us,rfl,.inl (SqL.of hl),_,_,rfl,rfl,_,rfl,?_⟩;rw [Qz (show ¬ (us.length:Int) < (i:Int) by omega)];refine iteF ?_;refine ⟨_,rfl,fun e ne=>?_⟩;have t6:=SB.new (ps:=[]) ne (.dK []);have he6:upd H5 e (.dK []) e=some (.dK []):=Qt;have s06:=s05.trans t6;have ed6:d ≠ e:=fun z=>by
  obtain ⟨kvs,h1,_⟩:=hd.sb0 s05;rw [z,ne] at h1; cases h1
 generalize upd H5 e (.dK [])=H6 at t6 he6 s06;have nb:=R.get;have gnb:Gr.Named b.names g:=fun x hx=>by
  obtain ⟨kd',e'⟩:=R.get _ (gn x hx);obtain ⟨m1,m2⟩:=Bk.get_some e';exact List.mem_map.mpr ⟨kd',m1,m2⟩
 refine ⟨_,rfl,_,rfl,_,rfl,p,_,_,_,rfl,rfl,s06.sqT hT,atI_nat (j:=0) rfl,_,rfl,p,_,_,_,rfl,rfl,s06.sqT hT,atI_nat (j:=1) rfl,_,rfl,p,_,_,_,rfl,rfl,s06.sqT hT,atI_nat (j:=2) rfl,d,a,u,b,g,pl,kz,kd,i,r,m,C,rfl,hd.sb0 s06,⟨ok,gnb⟩,⟨hg.sb s06,go,by omega,by omega⟩,s06.sqT hA,hb,eg,er,m0,mB,by omega,fun x7 H7 s7 hx7=>?_⟩;have s07:=s06.trans s7;have he7:=s7.keep _ _ he6 nmn;have M7:Memo K H7 e ρ ns []:=⟨⟨[],he7,.nil⟩,List.nodup_nil,fun _ h=>nomatch h⟩;have go2:=Gr.grw_ok rok m0;have hF:=Int.mul_nonneg (show (0:Int)<=1000000001 by omega) m0;have io:=Gr.stk_ok (b:=b) m0 (by omega) go2 go hb;have idp:=Gr.stk_deep (b:=b) (n:=m) (fr:=Gr.grw r m) hb;have ipp:=Gr.stk_parts (b:=b) (n:=m) (fr:=Gr.grw r m) hb;have gd2:=Gr.grw_deep rok m;have gp2:=Gr.grw_parts rok m;have ipp2:pl.length*(g.parts+1)<=12*61:=Nat.mul_le_mul (by omega) (by omega);have gn2:Gr.Named ns (Gr.grw r m):=Gr.grw_named (fun x hx=>by
  rcases Qw hx with hx | hx
  ·exact rn1 x hx
  ·exact rn2 x hx) m
 have inm:=Gr.stk_named (b:=b) (n:=m) gn2 hb gn;have low8:∀ g':Gr,Gr.Named ns g'->∀ x ∈ g'.within,lv x.1.1 < 8:=fun g' hn x hx=>R.low _ (hn x hx);refine ⟨d,e,x7,b,ρ,ns,[],lv,_,_,8,rfl,hd.sb0 s07,ed6,R,M7,⟨hx7,io,fit1,by omega,by omega⟩,low8 _ inm,by omega,fun x8 H8 ms s8 M8 _ hx8=>?_⟩;refine z02 ?_;have nE:NoL H7 [e]:=NoL.one he7;have hd8:=(hd.sb0 s07).sb s8 (by simpa using ed6) nE;have s08:SB [] H H8:=((s05.nil.trans (t6.nil (ps:=[e]))).trans (s7.nil.trans s8)).drop (s05.dom _ ne);have hle:(Gr.rk b ρ (Gr.stk b m (Gr.grw r m) pl g).1).lt t=false:=hreach m (Int.le_refl _);refine ⟨_,rfl,_,rfl,x8,y,_,t,rfl,hx8,hy.sb s08,Nat.lt_of_le_of_lt lf1.deep (by decide),lf1.deep,td,fun H9 s9=>?_⟩;rw [hle];refine ⟨_,rfl,_,rfl,iteT ?_⟩;have s09:=s08.trans s9;refine ⟨_,rfl,_,rfl,fun e2 ne2=>?_⟩;have t10:=SB.new (ps:=[]) ne2 (.dK []);have he10:upd H9 e2 (.dK []) e2=some (.dK []):=Qt;have hd9:=hd8.sb0 s9;have ed10:d ≠ e2:=fun z=>by
  obtain ⟨kvs,h1,_⟩:=hd9;rw [z,ne2] at h1; cases h1
 generalize upd H9 e2 (.dK [])=H10 at t10 he10;have M10:Memo K H10 e2 ρ ns []:=⟨⟨[],he10,.nil⟩,List.nodup_nil,fun _ h=>nomatch h⟩;have s010:=s09.trans t10;refine ⟨_,rfl,d,e2,u,b,ρ,ns,[],lv,g,_,8,rfl,hd9.sb0 t10,ed10,R,M10,⟨hg.sb s010,go,fit2,by omega,by omega⟩,low8 _ gn,by omega,fun x11 H11 ms2 s11 M11 _ hx11=>?_⟩;have s911:SB [] H9 H11:=(t10.nil.trans s11).drop ne2;have hlt:=Gr.stk_less (b:=b) R.toGoods eg (Qu er) m0 go gn hb;refine ⟨x8,x11,_,_,rfl,hx8.sb (s9.trans s911),hx11,Nat.lt_of_le_of_lt lf1.deep (by decide),lf1.deep,lf2.deep,fun H12 s12=>?_⟩;rw [hlt];exact q H12 ((s09.trans s911).trans s12)
theorem zir:FnScope ["self","kind"] ["self","kind"] (defScope s_q5):=⟨rfl,rfl,rfl,by decide +kernel,rfl,by decide +kernel,by decide +kernel⟩
theorem zhi {C:Addr} (F:Fun K "__init__" "NoKind.__init__" s_q5 f fd):FnOk P w K mg base CX0 1 f fd ["self","kind"] (z74 K C):=by
 refine F.ok zir (fun vs H Q E h=>?_) (fun cdv A outer s H vs Q E hr h=>?_)
 ·obtain ⟨a,y,rfl,_⟩:=h
  rfl
 obtain ⟨a,y,rfl,T,no,ha,q⟩:=h;refine ⟨_,Qe (ps_ost (pv 0) (pv 1)),?_⟩;exact ⟨_,rfl,_,rfl,a,C,rfl,T,no,.inl ⟨ha,q⟩⟩
theorem zil:FnScope ["self","kind"] ["self","kind"] (defScope s_q4):=⟨rfl,rfl,rfl,by decide +kernel,rfl,by decide +kernel,by decide +kernel⟩
theorem zgs {C:Addr} (F:Fun K "__init__" "Endless.__init__" s_q4 f fd):FnOk P w K mg base CX0 1 f fd ["self","kind"] (z74 K C):=by
 refine F.ok zil (fun vs H Q E h=>?_) (fun cdv A outer s H vs Q E hr h=>?_)
 ·obtain ⟨a,y,rfl,_⟩:=h
  rfl
 obtain ⟨a,y,rfl,T,no,ha,q⟩:=h;refine ⟨_,Qe (ps_ost (pv 0) (pv 1)),?_⟩;exact ⟨_,rfl,_,rfl,a,C,rfl,T,no,.inl ⟨ha,q⟩⟩
abbrev N_q0:List Str:=["self","kinds","name","spreading","rows"]
theorem sc_q0:FnScope N_q0 ["self","kinds"] (defScope s_q0):=⟨rfl,rfl,rfl,by decide +kernel,rfl,by decide +kernel,by decide +kernel⟩
theorem zit {C_NoBook C_Book:Addr} (B:BI mg) (O_NoBook:Own K mg "NoBook" C_NoBook) (T_Book:ClsF K C_Book ["spread_by_name","rows_by_name"]) (G_q29:Got P w K mg base "are_kinds" ["things"] (87) (z59 K)) (F:Fun K "__init__" "Book.__init__" s_q0 f fd):FnOk P w K mg base (L2.CX P w) (88) f fd ["self","kinds"] (z47 K C_Book C_NoBook):=by
 refine F.okX sc_q0 (fun vs H Q E h=>?_) (fun cdv A outer s H vs Q E hr h=>?_)
 ·obtain ⟨x,dx,l,xs,ts,rfl,_⟩:=h
  rfl
 obtain ⟨x,dx,l,xs,ts,rfl,hx,hdx,hs,ha,hf,hl,q,qE⟩:=h;have hun2:=hunT hr;refine ⟨_,Qc (Qr (Qp (Qo (z00 G_q29 (hr.mono (by omega)) rfl (Qa (pv 1) Qb)))) (Qe (ps_raise rfl (takes_of rfl rfl rfl rfl) (pmk_own PySem.F.excBase_ValueError O_NoBook.q O_NoBook.gC O_NoBook.k (raises_own O_NoBook.s O_NoBook.t) rfl))) pss_nil)
  (Qc (ps_fld (pv 0) (pe_dc (own:=[("name",2),("spreading",3),("rows",4)]) (g:=(gTup K 3 (gCons (gName 2) (gCons (gName 3) (gCons (gName 4) gNil))))) (tt:=tYes) (tk:=(tVar 2)) (tv:=(tVar 3)) rfl sc_q0.nd (pi_list (pv 1)) (blkOk_by (N:=N_q0) (sc:=defScope s_q0) (by decide +kernel)) (fun _ _ _ _ _=>(pg_tup rfl (Qi (pg_name (i:=2) sc_q0.nd rfl (.inl rfl)) (Qi (pg_name (i:=3) sc_q0.nd rfl (.inl rfl)) (Qi (pg_name (i:=4) sc_q0.nd rfl (.inl rfl)) pgs_nil))))) (fun _ _ _ _ _=>pts_nil) (fun _ _ _ _ _=>(pv 2)) (fun _ _ _ _ _=>(pv 3))) rfl)
  (Qe (ps_fld (pv 0) (pe_dc (own:=[("name",2),("spreading",3),("rows",4)]) (g:=(gTup K 3 (gCons (gName 2) (gCons (gName 3) (gCons (gName 4) gNil))))) (tt:=tYes) (tk:=(tVar 2)) (tv:=(tCB (fun xs H Q=>∃ p ys,xs=[.ref p]/\((SqL K H p ys/\∀ l,H l=none->Q (.ref l) (upd H l (.tup ys)))\/(SqT K H p ys/\Q (.ref p) H))) (tCons (tVar 4) tNil))) rfl sc_q0.nd (pi_list (pv 1)) (blkOk_by (N:=N_q0) (sc:=defScope s_q0) (by decide +kernel)) (fun _ _ _ _ _=>(pg_tup rfl (Qi (pg_name (i:=2) sc_q0.nd rfl (.inl rfl)) (Qi (pg_name (i:=3) sc_q0.nd rfl (.inl rfl)) (Qi (pg_name (i:=4) sc_q0.nd rfl (.inl rfl)) pgs_nil))))) (fun _ _ _ _ _=>pts_nil) (fun _ _ _ _ _=>(pv 2)) (fun _ _ _ _ _=>(pe_callTy call_tuple_of rfl B.tuple boot_tuple (Qa (pv 4) Qb)))) rfl))),?_⟩
 refine ⟨_,rfl,l,xs,ts,rfl,SqL.of hs,ha,hf,hl,fun b H1 s1 hb=>?_⟩;refine ⟨_,rfl,?_⟩;cases b with
 | false=>exact iteT (qE (fun z=>nomatch (hb.mpr z)) H1 s1)
 | true =>
 refine iteF ?_;obtain ⟨bk,et,ok⟩:=hb.mp rfl;subst et;have q2:=q bk rfl ok;have ha1:=(ha.sb s1).kd;have hs1:=s1.keep _ _ hs nmn;have hx1:=s1.keep _ _ hx nmn;have xlen:=ha1.length;have szl:=sizeLine_eq;have b8:=ok.len;have hlx:l ≠ x:=ne_of hs hx (fun z=>nomatch z);refine ⟨_,rfl,l,rfl,⟨_,SqL.of hs1⟩,fun D hD=>?_⟩;refine zas (walk_list (xs:=xs)) hD (by omega) (fun i kvs _=>kvs=Bk.spKV (bk.take i)) rfl (fun H2 s2=>s2.sqL nmn (SqL.of hs1)) (fun _ _ _ _ _ h=>h) (fun Pv i y H2 H' kvs hi s2 yy hR hl2 fin _=>?_) (fun kvs H2 s2 hD2 hR _=>?_)
 ·obtain ⟨rfl,ey⟩:=yy;obtain ⟨k,ek,t,r,zs,rfl,h1,h2,h3,_⟩:=ha1.get ey;refine ⟨t,_,rfl,s2.sqT h1,rfl,_,_,rfl,_,_,rfl,_,_,rfl,rfl,rfl,?_⟩;refine ⟨_,rfl,_,rfl,fin (Sum.inr k.n) _ _ SB.refl ?_⟩;rw [hR,z26,Yg,ek,Option.toList_some,Bk.spKV,Bk.spKV,Yj]
  ·rfl
  ·intro p hp e;obtain ⟨j,hj,rfl⟩:=Qx hp
   injection e with e
   exact Bk.nodup_at ok.nd ek j hj e
 ·rw [xlen,Yh] at hR;subst hR;have hx2:=s2.keep _ _ hx1 nmn;have hl2:=s2.keep _ _ hs1 nmn;have ha2:=ha1.sb s2 NoLst.nil;refine ⟨_,rfl,x,_,dx,_,rfl,hx2,T_Book.c,T_Book.no _ (by simp),by decide,?_⟩;have e1:putF (Str.ofString "spread_by_name") (V.ref D) []=[(Str.ofString "spread_by_name",V.ref D)]:=rfl;rw [e1];have t3:SB [x] H2 (upd H2 x (.ins C_Book dx [(Str.ofString "spread_by_name",V.ref D)])):=SB.setG hx2 (by simp) (fun _ z=>nomatch z) (fun _ _ z=>nomatch z) _;have nl3:NoLst H2 [] [x]:=fun p hp=>.inr fun xs z=>by rw [Qy hp,hx2] at z; cases z
  have ha3:=ha2.sb t3 nl3;have hl3:=t3.keep _ _ hl2 (by simpa using hlx);have hx3:upd H2 x (.ins C_Book dx [(Str.ofString "spread_by_name",V.ref D)]) x=some (.ins C_Book dx [(Str.ofString "spread_by_name",V.ref D)]):=Qt;have hD3:=t3.keep _ _ hD2 (by simpa using ne_of hD2 hx2 (fun z=>nomatch z));have s03:=((s1.trans s2).nil (ps:=[x])).trans t3;generalize upd H2 x (.ins C_Book dx [(Str.ofString "spread_by_name",V.ref D)])=H3 at t3 ha3 hl3 hx3 hD3 s03;refine ⟨_,rfl,l,rfl,⟨_,SqL.of hl3⟩,fun D2 hn2=>?_⟩;refine zas (walk_list (xs:=xs)) hn2 (by omega) (fun i kvs H4=>∃ us,kvs=Bk.rowKV (bk.take i) us/\Bears K H4 Kd.rowE us (bk.take i)) ⟨[],rfl,.nil⟩ (fun H4 s4=>s4.sqL nmn (SqL.of hl3)) (fun i us H4 H5 s5 ⟨us',e,hb⟩=>⟨us',e,hb.sb s5 Kd.noList_rowE⟩) (fun Pv i y H4 H' kvs hi s4 yy hR hl4 fin _=>?_) (fun kvs H4 s4 hD4 hR _=>?_)
  ·obtain ⟨rfl,ey⟩:=yy;obtain ⟨us,rfl,hb⟩:=hR;obtain ⟨k,ek,t,r,zs,rfl,h1,h2,h3,_⟩:=ha3.get ey;refine ⟨t,_,rfl,s4.sqT h1,rfl,_,_,rfl,_,_,rfl,_,_,rfl,rfl,rfl,?_⟩;refine ⟨_,rfl,_,rfl,r,zs,rfl,.inl ⟨SqL.of (s4.keep _ _ h2 nmn),fun p hp=>?_⟩⟩;have t5:=SB.new (ps:=[]) hp (.tup zs);refine fin (Sum.inr k.n) _ _ t5 ⟨us++[.ref p],?_,?_⟩
   ·rw [z26,Yg,ek,Option.toList_some,Bk.rowKV,Bk.rowKV,List.zipWith_append hb.length.symm]
    ·rfl
    ·intro p hp e;obtain ⟨j,hj,e2⟩:=z7m hp;rw [e2] at e
     injection e with e
     exact Bk.nodup_at ok.nd ek j hj e
   ·rw [Yg,ek,Option.toList_some];exact Bears.append (hb.sb t5 Kd.noList_rowE) (.cons (.tup (.inl (.inl Qt)) (Bears.dp ((h3.sb s4 Ru.noList_enc).sb t5 Ru.noList_enc))) .nil)
  ·rw [xlen,Yh] at hR;obtain ⟨us,rfl,hb⟩:=hR;have hx4:=s4.keep _ _ hx3 nmn;refine ⟨_,rfl,x,_,dx,_,rfl,hx4,T_Book.c,T_Book.no _ (by simp),by simp,?_⟩;have t5:SB [x] H4 (upd H4 x (.ins C_Book dx (bkF D D2))):=SB.setG hx4 (by simp) (fun _ z=>nomatch z) (fun _ _ z=>nomatch z) _;refine q2 _ ((s03.trans s4.nil).trans t5) ⟨x,dx,D,D2,us,rfl,Qt,?_,?_,hb.sb t5 Kd.noList_rowE⟩
   ·exact t5.keep _ _ (s4.keep _ _ hD3 nmn) (by simpa using ne_of (s4.keep _ _ hD3 nmn) hx4 (fun z=>nomatch z))
   ·exact t5.keep _ _ hD4 (by simpa using ne_of hD4 hx4 (fun z=>nomatch z))
abbrev N_q1:List Str:=["self"]
theorem zhr:FnScope N_q1 ["self"] (defScope s_q1):=⟨rfl,rfl,rfl,by decide +kernel,rfl,by decide +kernel,by decide +kernel⟩
theorem zhb {C_Book:Addr} (B:BI mg) (T_Book:ClsF K C_Book ["spread_by_name","rows_by_name"]) (F:Fun K "names" "Book.names" s_q1 f fd):FnOk P w K mg base CX0 (1) f fd ["self"] (z1z K C_Book):=by
 refine F.ok zhr (fun vs H Q E h=>?_) (fun cdv A outer s H vs Q E hr h=>?_)
 ·obtain ⟨v,b,rfl,_⟩:=h
  rfl
 obtain ⟨v,b,rfl,hb,hl,q⟩:=h;have hun2:=hunT hr;refine ⟨_,Qe (Qj (pe_callTy (call_listD rfl) rfl B.list boot_list (Qa (pe_fld (pv 0) rfl) Qb))),?_⟩;obtain ⟨a,dx,d1,d2,us,rfl,h1,h2,h3,h4⟩:=hb;refine ⟨_,rfl,a,_,dx,_,_,rfl,h1,T_Book.c,T_Book.no _ (by simp),rfl,d1,_,rfl,.inl h2,fun p hp=>?_⟩;exact q p _ (SB.new hp _) hp (by rw [Qt,Bk.spKV,List.map_map,List.map_map]; rfl)
abbrev N_q3:List Str:=["self","name"]
theorem zjb:FnScope N_q3 ["self","name"] (defScope s_q3):=⟨rfl,rfl,rfl,by decide +kernel,rfl,by decide +kernel,by decide +kernel⟩
theorem zhx {C_Book C_NoKind:Addr} (B:BI mg) (T_Book:ClsF K C_Book ["spread_by_name","rows_by_name"]) (G_q33:GotX P w K mg base "check_kind" ["book","name"] (3) (z34 K C_Book C_NoKind)) (F:Fun K "spreads" "Book.spreads" s_q3 f fd):FnOk P w K mg base (L2.CX P w) (4) f fd ["self","name"] (z1s K C_Book C_NoKind):=by
 refine F.okX zjb (fun vs H Q E h=>?_) (fun cdv A outer s H vs Q E hr h=>?_)
 ·obtain ⟨v,b,n,rfl,_⟩:=h
  rfl
 obtain ⟨v,b,n,rfl,hb,hl,qk,qE⟩:=h;have hun2:=hunT hr;refine ⟨_,Qc (ps_expr (z0k G_q33 (hr.mono (by omega)) rfl (takes_of rfl rfl rfl rfl) (Qa (pv 0) (Qa (pv 1) Qb))))
  (Qe (Qj (pe_dget (by show A.units+3+1 < cLine; omega) (pe_fld (pv 0) rfl) (pv 1) (fun _ _=>rfl)))),?_⟩
 refine ⟨_,rfl,_,rfl,_,b,n,rfl,hb,hl,fun k e H1 s1=>?_,qE⟩;obtain ⟨a,dx,d1,d2,us,rfl,h1,h2,h3,h4⟩:=hb.sb0 s1;refine ⟨_,rfl,a,_,dx,_,_,rfl,h1,T_Book.c,T_Book.no _ (by simp),rfl,_,rfl,d1,V.bl k.w,rfl,getK h2 (by rw [Bk.spKV_val,e]; rfl),qk k e H1 s1⟩
abbrev N_q2:List Str:=["self","name"]
theorem zjl:FnScope N_q2 ["self","name"] (defScope s_q2):=⟨rfl,rfl,rfl,by decide +kernel,rfl,by decide +kernel,by decide +kernel⟩
theorem zjs {C_Book C_NoKind:Addr} (B:BI mg) (T_Book:ClsF K C_Book ["spread_by_name","rows_by_name"]) (G_q33:GotX P w K mg base "check_kind" ["book","name"] (3) (z34 K C_Book C_NoKind)) (F:Fun K "rules" "Book.rules" s_q2 f fd):FnOk P w K mg base (L2.CX P w) (4) f fd ["self","name"] (z2w K C_Book C_NoKind):=by
 refine F.okX zjl (fun vs H Q E h=>?_) (fun cdv A outer s H vs Q E hr h=>?_)
 ·obtain ⟨v,b,n,rfl,_⟩:=h
  rfl
 obtain ⟨v,b,n,rfl,hb,hl,hr4,qk,qE⟩:=h;have hun2:=hunT hr;refine ⟨_,Qc (ps_expr (z0k G_q33 (hr.mono (by omega)) rfl (takes_of rfl rfl rfl rfl) (Qa (pv 0) (Qa (pv 1) Qb))))
  (Qe (Qj (pe_callTy call_list_of rfl B.list boot_list (Qa (pe_dget (by show A.units+3+1 < cLine; omega) (pe_fld (pv 0) rfl) (pv 1) (fun _ _=>rfl)) Qb)))),?_⟩
 refine ⟨_,rfl,_,rfl,_,b,n,rfl,hb,hl,fun k e H1 s1=>?_,qE⟩;obtain ⟨a,dx,d1,d2,us,rfl,h1,h2,h3,h4⟩:=hb.sb0 s1;obtain ⟨u,hv,hu⟩:=Bk.rowKV_val n h4 e;refine ⟨_,rfl,a,_,dx,_,_,rfl,h1,T_Book.c,T_Book.no _ (by simp),rfl,_,rfl,d2,u,rfl,getK h3 hv,?_⟩;cases hu with
 | tup ht hd=>exact ⟨_,_,rfl,.inr ht,fun l hl=>qk k e l _ _ (s1.trans (SB.new hl _)) (s1.dom l hl) Qt ((Bears.of hd).sb (SB.new (ps:=[]) hl _) Ru.noList_enc)⟩
end
theorem z4v:∀ {acc:List (Tr × Int)},(∀ x ∈ acc,x.1.2=.nil)->Gr.tot acc=acc.length
 | [],_=>rfl
 | p::r,h=>by
  have h1:=z4v (acc:=r) fun x hx=>h x (mcm _ hx);have h2:p.1.2=.nil:=h p (mcs ..);show 1+p.1.2.parts+Gr.tot r=r.length+1;rw [h1,h2];show 1+0+r.length=r.length+1;omega
section
variable {P:Program} {w:World} {K:Qn} {mg:Str->Option Value} {base:Heap} {f:Addr} {fd:FuncData}
abbrev z9x:List Str:=["_law_script","_law_pot_here","_law_book","_law_made","_law_pairs","_law_name","_law_way","_law_grove","_law_whole","_law_goals","_law_goal_here_here","_law_turn"]
theorem sc_q57:FnScope z9x ["_law_script"] (defScope z2d):=⟨rfl,rfl,rfl,by decide +kernel,rfl,by decide +kernel,by decide +kernel⟩
theorem zff {C_Book C_NoBook C_NoKind C_NoReach:Addr} (B:BI mg) (G_q19:Got P w K mg base "_law_pot" ["_law_script"] (1) (zcg K)) (G_q9:Got P w K mg base "_law_drawn_book" ["_law_pot_here","_law_most"] (16) (z9f K)) (G_q0:GotI P w K mg base "Book" C_Book ["self","kinds"] (88) (z47 K C_Book C_NoBook)) (G_q14:Got P w K mg base "_law_kinds" ["_law_book","_law_turned"] (1) (z84 K)) (G_q23:Got P w K mg base "_law_take" ["_law_pot_here","_law_many"] (1) (z19)) (G_q13:Got P w K mg base "_law_grove_of" ["_law_pairs"] (1) (z2o K)) (G_q20:Got P w K mg base "_law_rank" ["_law_book","_law_known","_law_grove"] (220) (z29 K 177)) (G_q12:Got P w K mg base "_law_goal_here" ["_law_pot_here","_law_ladder_here"] (42) (z6y K)) (G_q21:Got P w K mg base "_law_reaches" ["_law_book","_law_grove","_law_told","_law_goal_here"] (225) (z8p K)) (G_q41:GotX P w K mg base "fall_to" ["book","grove","ladder"] (94) (z7y K C_Book C_NoKind C_NoReach)) (F:Fun K "law" "law" z2d f fd):FnOk P w K mg base CX0 (230) f fd ["_law_script"] (spLaw K):=by
 refine F.ok sc_q57 (fun vs H Q E h=>?_) (fun cdv A outer s H vs Q E hr h=>?_)
 ·obtain ⟨a,ns,rfl,_⟩:=h
  rfl
 obtain ⟨a,ns,rfl,hs,nl,q⟩:=h;have hun2:=hunT hr;refine ⟨_,Qc (ps_set (i:=1) sc_q57.nd rfl (.inr rfl) (z00 G_q19 (hr.mono (by omega)) rfl (Qa (pv 0) Qb)))
  (Qc (ps_set (i:=2) sc_q57.nd rfl (.inl rfl) (z00 G_q9 (hr.mono (by omega)) rfl (Qa (pv 1) (Qa Qg Qb))))
  (Qc (ps_set (i:=3) sc_q57.nd rfl (.inl rfl) (zdd G_q0 (hr.mono (by omega)) rfl (Qa (z00 G_q14 (hr.mono (by omega)) rfl (Qa (pv 2) (Qa (pe_cmpR op_eq (z00 G_q23 (hr.mono (by omega)) rfl (Qa (pv 1) (Qa Qg Qb))) Qg (nomark _)) Qb))) Qb)))
  (Qc (ps_set (i:=4) sc_q57.nd rfl (.inl rfl) (pe_lst Qb))
  (Qc (ps_lock (ps_for PassesOwn.never rfl (pi_keys (pv 2)) (pg_name (i:=5) sc_q57.nd rfl (.inl rfl))
   (Qc (ps_set (i:=6) sc_q57.nd rfl (.inl rfl) (z00 G_q23 (hr.mono (by omega)) rfl (Qa (pv 1) (Qa Qg Qb))))
  (Qe (Qr (pt_cmpR op_gt (pv 6) Qg (nomark _)) (Qe (ps_expr (pe_bm PySem.F.plainAttrs_list PySem.F.slot_list_append PySem.F.type_list_append mt_append (pv 4) (Qa (pe_tup (Qa (pe_tup (Qa (pv 5) (Qa (pe_tup Qb) Qb))) (Qa (Qm ix_list (pe_lst (Qa Qg (Qa (pe_op op_add Qg (z00 G_q23 (hr.mono (by omega)) rfl (Qa (pv 1) (Qa Qg Qb)))) (Qa (pe_op op_add Qg (z00 G_q23 (hr.mono (by omega)) rfl (Qa (pv 1) (Qa (pe_op op_pow Qg Qg) Qb)))) Qb)))) (pe_op op_sub (pv 6) Qg) (fun _ _=>rfl)) Qb))) Qb)))) pss_nil)))))
  (Qc (ps_set (i:=7) sc_q57.nd rfl (.inl rfl) (z00 G_q13 (hr.mono (by omega)) rfl (Qa (pv 4) Qb)))
  (Qc (Qr (pt_cmpR (op_eqD (by show A.units+3+64 < cLine; omega)) (pv 7) (pe_tup Qb) (nomark _)) (Qe (ps_set (i:=7) sc_q57.nd rfl (.inl rfl) (z00 G_q13 (hr.mono (by omega)) rfl (Qa (pe_lock (pe_lc (own:=[("_law_name",5)]) (g:=(gName 5)) (tt:=tYes) (te:=(tTup (tCons (tTup (tCons (tVar 5) (tCons (tTup tNil) tNil))) (tCons (tC (.int 1)) tNil)))) rfl sc_q57.nd (pi_keys (pv 2)) (blkOk_by (N:=z9x) (sc:=defScope z2d) (by decide +kernel)) (fun _ _ _ _ _=>(pg_name (i:=5) sc_q57.nd rfl (.inl rfl))) (fun _ _ _ _ _=>pts_nil) (fun _ _ _ _ _=>(pe_tup (Qa (pe_tup (Qa (pv 5) (Qa (pe_tup Qb) Qb))) (Qa Qg Qb)))))) Qb)))) pss_nil)
  (Qc (ps_set (i:=8) sc_q57.nd rfl (.inr rfl) (z00 G_q20 (hr.mono (by omega)) rfl (Qa (pv 2) (Qa pe_dnewK (Qa (pv 7) Qb)))))
  (Qc (ps_setLc (i:=9) (own:=[("_law_turn",11)]) (g:=(gName 11)) (tt:=tYes) (te:=(tCall (z6y K) [] E0 (tCons (tVar 1) (tCons (tVar 8) tNil)))) rfl sc_q57.nd rfl rfl (sw_true rfl rfl rfl (by decide +kernel)) (pi_range1 rfl B.range (Qa Qg Qb)) (blkOk_by (N:=z9x) (sc:=defScope z2d) (by decide +kernel)) (fun _ _ _ _ _=>(pg_name (i:=11) sc_q57.nd rfl (.inl rfl))) (fun _ _ _ _ _=>pts_nil) (fun _ _ _ _ _=>(z00 G_q12 (hr.mono (by omega)) rfl (Qa (pv 1) (Qa (pv 8) Qb)))))
  (Qc (ps_for PassesOwn.never rfl (pi_list (pe_op op_cat (pv 9) (pe_slice sl_list (pv 9) po_none (po_some Qg)))) (pg_name (i:=10) sc_q57.nd rfl (.inl rfl))
   (Qe (Qr (Qp (Qo (z00 G_q21 (hr.mono (by omega)) rfl (Qa (pv 2) (Qa (pv 7) (Qa (z3t G_q41 (hr.mono (by omega)) rfl (Qa (pv 3) (Qa (pv 7) (Qa (pv 10) Qb)))) (Qa (pv 10) Qb))))))) (Qe (Qj pe_bl)) pss_nil)))
  (Qe (Qj pe_bl))))))))))),?_⟩
 have szl:=sizeLine_eq;refine ⟨_,rfl,a,ns,rfl,hs,nl,fun p H1 s1 np hp=>?_⟩;obtain ⟨cl,hp⟩:=PotC.of hp;refine z02 ?_;refine ⟨_,rfl,p,cl,5,rfl,hp,by decide,by decide,fun d b H2 s2 hp2 nd dp hdk drawn=>?_⟩;refine z02 ?_;have b5:=drawn.len;refine ⟨_,rfl,_,rfl,p,cl,2,rfl,hp2,by decide,by decide,fun r3 H3 _ _ s3 hp3=>?_⟩;refine ⟨rfl,?_⟩;generalize decide (V.int r3=V.int 1)=wd;have nop:∀ {H:Hp},PotC H p cl->NoL H [p]:=fun h=>by obtain ⟨kvs,h⟩:=h.isD; exact NoL.one h
 have hdk3:=hdk.sb s3 (by simpa using dp) (nop hp2);refine ⟨d,b,wd,rfl,hdk3,by omega,fun L xs H4 s4 nL hL hka=>?_⟩;obtain ⟨c,ec,hka⟩:∃ c:Bk,(c=b\/c=b.reverse)/\KdAll K H4 [L] xs c:=⟨_,by cases wd <;> simp,hka⟩;obtain ⟨same,nms,lv,M⟩:=drawn.made (Yc 5) ec;refine nilI ?_;refine zb0 (Q:=fun x H1=>gName 3 x _ H1 _) (bad:=[L]) hL hka M.ok fun bk H5 s5 nbk hbk=>?_;have s35:=s4.trans s5;refine z02 ?_;have hdk5:=(hdk3.sb s35 nmn NoL.nil);have hp5:=hp3.sb s35;clear hka hL hdk3 hp3 hdk;refine ⟨by show 0<=sizeLine; decide,fun D nD=>?_⟩;have t6:=SB.new (ps:=[]) nD (.lst []);have hD6:upd H5 D (.lst []) D=some (.lst []):=Qt;have hp6:=hp5.sb t6;have hdk6:=hdk5.sb t6 nmn NoL.nil;have hbk6:=hbk.sb0 t6;have pD:=hp5.ne nD;have cD:=hp5.nc nD;have dD:d ≠ D:=fun z=>by
  obtain ⟨us,h,_⟩:=hdk5;rw [z,nD] at h; cases h
 generalize upd H5 D (.lst [])=H6 at t6 hD6 hp6 hdk6 hbk6;refine z02 ?_;obtain ⟨us,hd6,hpl6⟩:=hdk6;have ul:=hpl6.length;have kl:(nKV b.names us).length=b.length:=by
  show (List.zipWith _ _ _).length=_;rw [List.length_zipWith,Ye]; omega
 have cd:cl ≠ d:=fun z=>by
  obtain ⟨ns,a,l,s,_,a2,_⟩:=hp6;rw [z,hd6] at a2; cases a2
 refine ⟨d,_,hd6,trivial,fun od=>?_⟩;have hDL:upd H6 d (.frz od (.dK (nKV b.names us))) D=some (.lst []):=by rw [upd_ne (fun z=>dD z.symm)]; exact hD6
 have hpL:PotC (upd H6 d (.frz od (.dK (nKV b.names us)))) p cl:=hp6.upd (fun z=>dp z.symm) cd;have hdL:upd H6 d (.frz od (.dK (nKV b.names us))) d=some (.frz od (.dK (nKV b.names us))):=Qt;have un:∀ H',SB [p,D] (upd H6 d (.frz od (.dK (nKV b.names us)))) H'->SB [p,D] H6 (upd H' d (.dK (nKV b.names us))):=fun H' s=>s.unlockP hd6 (fun _ z=>nomatch z) (fun _ _ z=>nomatch z);generalize upd H6 d (.frz od (.dK (nKV b.names us)))=HL at hDL hpL hdL un;refine ⟨_,rfl,d,od,rfl,.inl ⟨_,hdL,?_⟩⟩;refine for_it walk_keys (fun i σ H7=>SB [p,D] HL H7/\PotC H7 p cl/\∃ (vs:List V) (acc:List (Tr × Int)) (o5 o6:Option V),σ=[some (.ref a),some (.ref p),some (.ref d),some (.ref bk),some (.ref D),o5,o6,none,none,none,none,none]/\H7 D=some (.lst vs)/\Bears K H7 Gr.pEnc vs acc/\acc.length<=i/\allE acc<=acc.length*10 ^ 30/\∀ x ∈ acc,(z03 x.1.1/\x.1.1 ∈ c.names)/\x.1.2=.nil/\1<=x.2)
  ⟨SB.refl,hpL,[],[],none,none,rfl,hDL,.nil,Yc _,by simp [allE],fun x hx=>nomatch hx⟩ (fun i σ H7 hi h=>h.1.frzs _ _ _ hdL) (fun i x σ H7' H7 hi h y=>?_) (fun σ H7 h=>?_)
 ·obtain ⟨s7,hp7,vs,acc,o5,o6,rfl,hD7,hb7,al,ae,good⟩:=h;obtain ⟨rfl,k0,v0,ek,rfl⟩:=y;rw [kl] at hi;obtain ⟨k,ekb⟩:∃ k,b[i]?=some k:=⟨_,List.getElem?_eq_getElem hi⟩;obtain ⟨u,eu⟩:∃ u,us[i]?=some u:=⟨_,List.getElem?_eq_getElem (by omega)⟩;have enk:b.names[i]?=some k.n:=by rw [List.getElem?_map,ekb]; rfl
  have ekv:(nKV b.names us)[i]?=some (Sum.inr k.n,u):=by
   show (List.zipWith _ _ _)[i]?=_;rw [List.getElem?_zipWith,enk,eu]
  rw [ekv] at ek;cases ek;have km:=Qu ekb;have kok:=(drawn.ok.kd k km).1;have kc:k.n ∈ c.names:=(nms _).mpr (List.mem_map.mpr ⟨k,km,rfl⟩);refine z2l ?_;refine ⟨_,rfl,p,cl,4,rfl,hp7,by decide,by decide,fun wy H8 wy0 wy4 s8 hp8=>?_⟩;refine z02 ?_;have hD8:=s8.keep _ _ hD7 (by simpa using fun z:D=p=>pD z.symm);have hb8:=hb7.sb s8 Gr.noList_pEnc;have s78:SB [p,D] HL H8:=s7.trans (s8.mono (by simp));refine ⟨_,rfl,_,_,rfl,rfl,_,rfl,?_⟩;by_cases w0:0 < wy
  ·rw [Ya w0];refine iteT ?_;refine ⟨_,rfl,.inl ⟨rfl,_,SqL.of hD8⟩,_,rfl,by show 0<=sizeLine; decide,fun z1 nz1=>?_⟩;have t9:=SB.new (ps:=[]) nz1 (.tup []);have hz9:SqT K (upd H8 z1 (.tup [])) z1 []:=SqT.of Qt;have hp9:=hp8.sb t9;have hD9:=t9.keep _ _ hD8 nmn;generalize upd H8 z1 (.tup [])=H9 at t9 hz9 hp9 hD9;refine ⟨by show 2<=sizeLine; decide,fun z2 nz2=>?_⟩;have t10:=SB.new (ps:=[]) nz2 (.tup [kV (Sum.inr k.n),.ref z1]);have hz10:SqT K (upd H9 z2 (.tup [kV (Sum.inr k.n),.ref z1])) z2 [kV (Sum.inr k.n),.ref z1]:=SqT.of Qt;have hz9':=t10.sqT hz9;have hp10:=hp9.sb t10;have hD10:=t10.keep _ _ hD9 nmn;have t810:=t9.trans t10;generalize upd H9 z2 (.tup [kV (Sum.inr k.n),.ref z1])=H10 at t10 hz10 hz9' hp10 hD10 t810;have htr:Dp K H10 (.ref z2) (Gr.tEnc (k.n,.nil)):=.tup hz10 (.cons (.str _) (.cons (z5i hz9') .nil));refine ⟨_,rfl,p,cl,3,rfl,hp10,by decide,by decide,fun r11 H11 r110 r113 s11 hp11=>⟨_,_,rfl,rfl,?_⟩⟩;have e30:(10:Int) ^ (30:Int).toNat=10 ^ 30:=rfl;refine ⟨_,rfl,10,30,rfl,rfl,⟨by decide,by decide⟩,p,cl,_,rfl,hp11,by decide,by decide,fun r12 H12 r120 r12m s12 hp12=>⟨_,_,rfl,rfl,?_⟩⟩;rw [e30] at r12m;refine ⟨by show 3<=sizeLine; decide,fun L nL=>?_⟩;have t13:=SB.new (ps:=[]) nL (.lst [.int 1,.int (1+r11),.int (1+r12)]);have hL13:upd H12 L (.lst [.int 1,.int (1+r11),.int (1+r12)]) L=some (.lst [.int 1,.int (1+r11),.int (1+r12)]):=Qt;have hp13:=hp12.sb t13;have s1013:SB [p] H10 (upd H12 L (.lst [.int 1,.int (1+r11),.int (1+r12)])):=(s11.trans s12).trans t13.nil;generalize upd H12 L (.lst [.int 1,.int (1+r11),.int (1+r12)])=H13 at t13 hL13 hp13 s1013;obtain ⟨mv,emv,mv1,mv2⟩:∃ mv:Int,atI [V.int 1,V.int (1+r11),V.int (1+r12)] (wy-1)=some (.int mv)/\1<=mv/\mv<=10 ^ 30:=by
    rcases (by omega:wy=1\/wy=2\/wy=3) with rfl | rfl | rfl
    ·exact ⟨1,rfl,by omega,by omega⟩
    ·exact ⟨1+r11,rfl,by omega,by omega⟩
    ·exact ⟨1+r12,rfl,by omega,by omega⟩
   refine ⟨_,rfl,_,_,rfl,rfl,L,_,_,_,rfl,rfl,SqL.of hL13,emv,?_⟩;refine ⟨by show 2<=sizeLine; decide,fun T nT=>?_⟩;have hD13:=s1013.keep _ _ hD10 (by simpa using fun z:D=p=>pD z.symm);have t14:=SB.new (ps:=[]) nT (.tup [.ref z2,.int mv]);have hT14:SqT K (upd H13 T (.tup [.ref z2,.int mv])) T [.ref z2,.int mv]:=SqT.of Qt;have hD14:=t14.keep _ _ hD13 nmn;have hp14:=hp13.sb t14;have s1014:SB [p] H10 (upd H13 T (.tup [.ref z2,.int mv])):=s1013.trans t14.nil;generalize upd H13 T (.tup [.ref z2,.int mv])=H14 at t14 hT14 hD14 hp14 s1014;have s814:SB [p] H8 H14:=t810.nil.trans s1014;have vl:=hb8.length;refine ⟨D,vs,_,rfl,rfl,hD14,by omega,?_⟩;have t15:=SB.set (ps:=[D]) hD14 (by simp) (.lst (vs++[.ref T]));refine ⟨s78.trans ((s814.mono (by simp)).trans (t15.mono (by simp))),hp14.keep t15 (by simpa using pD) (by simpa using cD),vs++[.ref T],acc++[((k.n,.nil),mv)],_,_,rfl,Qt,?_,by rw [Yf,Yi]; omega,?_,fun x hx=>?_⟩
   ·exact ((hb8.sb s814 Gr.noList_pEnc).sb t15 Gr.noList_pEnc).append (.cons (Dp.tup (t15.sqT hT14) (.cons (z0a ((s1014.mono (qs:=[p,D]) (by simp)).trans (t15.mono (by simp))) _ _ (Gr.noList_tEnc _) htr) (.cons (.int _) .nil))) .nil)
   ·rw [z14,Yf,Yi];have h1:allE [((k.n,Gr.nil),mv)]=mv+0:=rfl;have h2:((acc.length+1:Nat):Int)*10 ^ 30=acc.length*10 ^ 30+10 ^ 30:=by rw [Int.natCast_add,Int.add_mul]; simp
    omega
   ·rcases Qw hx with hx | hx
    ·exact good x hx
    ·rw [Qy hx]; exact ⟨⟨kok,kc⟩,rfl,mv1⟩
  ·rw [Qz w0];exact iteF ⟨s78,hp8,vs,acc,_,_,rfl,hD8,hb8,by omega,ae,good⟩
 obtain ⟨s7,hp7,vs,acc,o5,o6,rfl,hD7,hb7,al,ae,good⟩:=h;rw [kl] at al;have hd7:=s7.frzs _ _ _ hdL;refine ⟨hd7,?_⟩;dsimp only;have s8:=un _ s7;have hp8:PotC (upd H7 d (.dK (nKV b.names us))) p cl:=hp7.upd (fun z=>dp z.symm) cd;have hD8:upd H7 d (.dK (nKV b.names us)) D=some (.lst vs):=by rw [upd_ne (fun z=>dD z.symm)]; exact hD7
 have hb8:Bears K (upd H7 d (.dK (nKV b.names us))) Gr.pEnc vs acc:=hb7.tp (z4a hd7) Gr.noList_pEnc;generalize upd H7 d (.dK (nKV b.names us))=H8 at s8 hp8 hD8 hb8;have s58:SB [p] H5 H8:=(((t6.nil (ps:=[D,p])).trans (s8.mono (by simp)))).drop nD;clear hDL hpL hb7 hD7 hp7;have big:(5:Int)*10 ^ 30+1<=2 ^ 119:=by decide
 have okacc:∀ x ∈ acc,z03 x.1.1/\x.1.2.Ok (2 ^ 119)/\1<=x.2:=fun x hx=>by
  obtain ⟨⟨a1,a2⟩,a3,a4⟩:=good x hx;exact ⟨a1,by rw [a3]; trivial,a4⟩
 have alle:allE acc < 2 ^ 119:=by
  have h1:(acc.length:Int)*10 ^ 30<=5*10 ^ 30:=Int.mul_le_mul_of_nonneg_right (by omega) (by decide);omega
 have tb:=z4v (acc:=acc) fun x hx=>(good x hx).2.1;refine seqI (asgI ?_);refine ⟨_,rfl,D,vs,acc,rfl,.inl (SqL.of hD8),hb8,by omega,⟨2 ^ 119,fun x hx=>⟨(okacc x hx).1,(okacc x hx).2.1,by rw [(good x hx).2.1]; decide⟩⟩,fun gv0 H9 s9 hg9=>?_⟩;refine z02 ?_;have g0o:(Gr.tidy acc).Ok (2 ^ 119):=Gr.tidy_ok okacc alle (Int.le_refl _);have g0p:(Gr.tidy acc).parts<=5:=Yb (Gr.tidy_parts acc) (by omega);have g0d:(Gr.tidy acc).deep<=1:=Gr.tidy_deep fun x hx=>by rw [(good x hx).2.1]; decide
 have g0n:Gr.Named c.names (Gr.tidy acc):=Gr.tidy_namedL fun x hx=>⟨(good x hx).1.2,by rw [(good x hx).2.1]; exact fun y hy=>nomatch hy⟩;generalize Gr.tidy acc=g0 at hg9 g0o g0p g0d g0n;have s59:SB [p] H5 H9:=s58.trans s9.nil;have hp9:=hp8.sb s9;have hdk9:=hdk5.sb s59 (by simpa using dp) (nop hp5);refine z15 (fun σ' G=>∃ (gv:V) (g:Gr),σ'=[some (.ref a),some (.ref p),some (.ref d),some (.ref bk),some (.ref D),o5,o6,some gv,none,none,none,none]/\SB [] H9 G/\GA K G gv g/\g.Ok (2 ^ 119)/\Gr.Named c.names g/\g.parts<=5/\g.deep<=1/\g ≠ .nil) (fun nx hnx=>?_) (fun σ' G h=>?_)
 ·refine ⟨_,rfl,by show 0<=sizeLine; decide,fun e0 ne0=>?_⟩;have t10:=SB.new (ps:=[]) ne0 (.tup []);have he10:SqT K (upd H9 e0 (.tup [])) e0 []:=SqT.of Qt;have hg10:=GA.sb hg9 t10;have hdk10:=hdk9.sb t10 nmn NoL.nil;generalize upd H9 e0 (.tup [])=H10 at t10 he10 hg10 hdk10;refine ⟨g0.enc,.tuple [],hg10,.tup he10 .nil,Gr.shaped_enc g0o (by omega),by decide +kernel,_,rfl,?_⟩;rw [Gr.enc_eq_nil];by_cases h0:g0=.nil
  ·rw [Ya h0];obtain ⟨us2,hd10,hpl10⟩:=hdk10;have ul2:=hpl10.length;have kl2:(nKV b.names us2).length=b.length:=by
    show (List.zipWith _ _ _).length=_;rw [List.length_zipWith,Ye]; omega
   refine iteT ⟨d,_,hd10,trivial,fun od2=>?_⟩;have hdL2:upd H10 d (.frz od2 (.dK (nKV b.names us2))) d=some (.frz od2 (.dK (nKV b.names us2))):=Qt;have un2:∀ H',SB [] (upd H10 d (.frz od2 (.dK (nKV b.names us2)))) H'->SB [] H10 (upd H' d (.dK (nKV b.names us2))):=fun H' s=>s.unlock hd10 (fun _ z=>nomatch z) (fun _ _ z=>nomatch z);generalize upd H10 d (.frz od2 (.dK (nKV b.names us2)))=HM at hdL2 un2;refine ⟨_,rfl,d,od2,rfl,.inl ⟨_,hdL2,fun D2 nD2=>?_⟩⟩;have dD2:D2 ≠ d:=fun z=>by rw [z,hdL2] at nD2; cases nD2
   refine z0i walk_keys nD2 (by omega) (fun i ws H2=>Bears K H2 Gr.pEnc ws ((b.names.take i).map fun n=>((n,Gr.nil),(1:Int)))) .nil (fun H2 s2=>s2.frzs _ _ _ hdL2) (fun _ _ _ _ s h=>h.sb s Gr.noList_pEnc) (fun Pv i x Hq H2 ws hi s2 y hR hu fin skip=>?_) (fun ws H11 s11 hD11 hR hu=>?_)
   ·obtain ⟨rfl,k0,v0,ek,rfl⟩:=y;rw [kl2] at hi;obtain ⟨k,ekb⟩:∃ k,b[i]?=some k:=⟨_,List.getElem?_eq_getElem hi⟩;obtain ⟨u,eu⟩:∃ u,us2[i]?=some u:=⟨_,List.getElem?_eq_getElem (by omega)⟩;have enk:b.names[i]?=some k.n:=by rw [List.getElem?_map,ekb]; rfl
    have ekv:(nKV b.names us2)[i]?=some (Sum.inr k.n,u):=by
     show (List.zipWith _ _ _)[i]?=_;rw [List.getElem?_zipWith,enk,eu]
    rw [ekv] at ek;cases ek;refine ⟨rfl,?_⟩;refine ⟨_,rfl,by show 0<=sizeLine; decide,fun z1 nz1=>?_⟩;have t12:=SB.new (ps:=[]) nz1 (.tup []);have hz12:SqT K (upd H2 z1 (.tup [])) z1 []:=SqT.of Qt;generalize upd H2 z1 (.tup [])=H12 at t12 hz12;refine ⟨by show 2<=sizeLine; decide,fun z2 nz2=>?_⟩;have t13:=SB.new (ps:=[]) nz2 (.tup [kV (Sum.inr k.n),.ref z1]);have hz13:SqT K (upd H12 z2 (.tup [kV (Sum.inr k.n),.ref z1])) z2 [kV (Sum.inr k.n),.ref z1]:=SqT.of Qt;have hz12':=t13.sqT hz12;have t123:=t12.trans t13;generalize upd H12 z2 (.tup [kV (Sum.inr k.n),.ref z1])=H13 at t13 hz13 hz12' t123;refine ⟨by show 2<=sizeLine; decide,fun z3 nz3=>?_⟩;have t14:=SB.new (ps:=[]) nz3 (.tup [.ref z2,.int 1]);refine fin _ _ (t123.trans t14) ?_;rw [Yg,enk,Yj];exact (hR.sb (t123.trans t14) Gr.noList_pEnc).append (.cons (Dp.tup (SqT.of Qt) (.cons (Dp.tup (t14.sqT hz13) (.cons (.str _) (.cons (z5i (t14.sqT hz12')) .nil))) (.cons (.int _) .nil))) .nil)
   ·rw [kl2,<- show b.names.length=b.length from List.length_map ..,Yh] at hR;have hd11:=s11.frzs _ _ _ hdL2;have s1011:=un2 _ s11;have hR2:Bears K (upd H11 d (.dK (nKV b.names us2))) Gr.pEnc ws (b.names.map fun n=>((n,Gr.nil),(1:Int))):=hR.tp (z4a hd11) Gr.noList_pEnc;have hD11':upd H11 d (.dK (nKV b.names us2)) D2=some (.lst ws):=by rw [upd_ne dD2]; exact hD11
    refine ⟨hd11,?_⟩;generalize upd H11 d (.dK (nKV b.names us2))=H12 at s1011 hR2 hD11';have allk:∀ x ∈ b.names.map (fun n=>((n,Gr.nil),(1:Int))),(z03 x.1.1/\x.1.2.Ok (2 ^ 119)/\1<=x.2)/\x.1.1 ∈ c.names/\x.1.2=.nil:=fun x hx=>by
     obtain ⟨n,hn,rfl⟩:=Qx hx;obtain ⟨k,km,rfl⟩:=Qx hn;exact ⟨⟨(drawn.ok.kd k km).1,trivial,Int.le_refl _⟩,(nms _).mpr hn,rfl⟩
    have lk:(b.names.map fun n=>((n,Gr.nil),(1:Int))).length=b.length:=by rw [Ye,Ye]
    have a1:∀ ns:List Str,allE (ns.map fun n=>((n,Gr.nil),(1:Int)))=ns.length:=fun ns=>by
     induction ns with
     | nil=>rfl
     | cons n r ih=>show 1+allE _=((r.length+1:Nat):Int); rw [ih]; omega
    have aln:=a1 b.names;rw [Ye] at aln;have tb2:=z4v (acc:=b.names.map fun n=>((n,Gr.nil),(1:Int))) fun x hx=>(allk x hx).2.2;have bpos:=drawn.ok.pos;have e119:(100:Int)<=2 ^ 119:=by decide
    refine ⟨D2,ws,_,rfl,.inl (SqL.of hD11'),hR2,by omega,⟨2 ^ 119,fun x hx=>⟨(allk x hx).1.1,(allk x hx).1.2.1,by rw [(allk x hx).2.2]; decide⟩⟩,fun gv H13 s13 hg13=>?_⟩;refine z02 (hnx _ _ ⟨gv,_,rfl,(t10.trans s1011).trans s13,hg13,Gr.tidy_ok (fun x hx=>(allk x hx).1) (by omega) (Int.le_refl _),Gr.tidy_namedL fun x hx=>⟨(allk x hx).2.1,by rw [(allk x hx).2.2]; exact fun y hy=>nomatch hy⟩,Yb (Gr.tidy_parts _) (by omega),Gr.tidy_deep fun x hx=>by rw [(allk x hx).2.2]; decide,?_⟩);refine Gr.tidy_neL (fun z=>?_) fun x hx=>(allk x hx).1.2.2;rw [z] at lk;rw [List.length_nil] at lk;omega
  ·rw [Qz h0];exact iteF (hnx _ _ ⟨gv0,g0,rfl,t10,hg10,g0o,g0n,g0p,g0d,h0⟩)
 obtain ⟨gv,g,rfl,s9G,hgG,go,gn,gp,gd,gne⟩:=h;clear hg9 g0o g0p g0d g0n;have s5G:SB [p] H5 G:=s59.trans s9G.nil;have hpG:=hp9.sb s9G;have hdkG:=hdk5.sb s5G (by simpa using dp) (nop hp5);have GR:=M.grv go gn (by omega) (by omega);have whn:=Gr.rk_ne (b:=c) M.law.toGoods go gn gne;refine ⟨_,rfl,fun e ne=>?_⟩;have t6:=SB.new (ps:=[]) ne (.dK []);have he6:upd G e (.dK []) e=some (.dK []):=Qt;have de6:d ≠ e:=fun z=>by
  obtain ⟨us,h,_⟩:=hdkG;rw [z,ne] at h; cases h
 have hdk6:=hdkG.sb t6 nmn NoL.nil;have hp6:=hpG.sb t6;have pe:=hpG.ne ne;have ce:=hpG.nc ne;have hg6:=hgG.sb t6;generalize upd G e (.dK [])=H6 at t6 he6 hdk6 hp6 hg6;have M6:Memo K H6 e (z01 c) c.names []:=⟨⟨[],he6,.nil⟩,List.nodup_nil,fun _ h=>nomatch h⟩;have low8:∀ g':Gr,Gr.Named c.names g'->∀ x ∈ g'.within,lv x.1.1 < 8:=fun g' hn x hx=>M.law.low _ (hn x hx);refine ⟨_,rfl,d,e,gv,c,z01 c,c.names,[],lv,g,_,8,rfl,hdk6.l same,de6,M.law,M6,⟨hg6,go,GR.fitL,by omega,by omega⟩,low8 _ gn,by omega,fun wv H7 ms7 s7 M7 _ hw7=>?_⟩;refine z02 ?_;have hp7:=hp6.keep s7 (by simpa using pe) (by simpa using ce);have sG7:SB [] G H7:=((t6.nil (ps:=[e])).trans s7).drop ne;have s57:SB [p] H5 H7:=s5G.trans sG7.nil;have hg7:=hgG.sb sG7;have hB9:(10:Int) ^ 9 < 2 ^ 1900:=by decide +kernel
 have hB2:(2:Int) ^ 1900<=2 ^ 2000:=z04 (by decide);have wpw:=(Gr.rk c (z01 c) g).wid_parts;refine ⟨_,rfl,by omega,by omega,fun D3 nD3=>?_⟩;refine z96 walk_range [p] nD3 hp7.some (by show 4 < sizeLine; decide) (fun i us H8=>PotC H8 p cl/\us.length=i/\∃ ts:List Lad,Bears K H8 Lad.enc us ts/\∀ t ∈ ts,t.deep<=12/\t.parts<=60/\t.Ok (2 ^ 1900)/\t.lt (Gr.rk c (z01 c) g)=true) ⟨hp7,rfl,[],.nil,fun _ h=>nomatch h⟩ (fun _ _=>trivial) (fun i us H8 H9 e8 h=>?_) (fun Pv i x H8 H' us hi s8 y hR hl fin _=>?_) (fun us H8 s8 hD8 hR hl=>?_)
 ·obtain ⟨h1,h2,ts,h3,h4⟩:=h;exact ⟨h1.keep e8 (by simpa using hp7.ne nD3) (by simpa using hp7.nc nD3),h2,ts,h3.sb e8 Lad.noList_enc,h4⟩
 ·obtain ⟨rfl,rfl⟩:=y;obtain ⟨h1,h2,ts,h3,h4⟩:=hR;refine ⟨rfl,?_⟩;refine ⟨_,rfl,_,rfl,p,cl,wv,_,2 ^ 1900,rfl,h1,hw7.sb s8,whn,Yb GR.deep (by decide),Yb wpw (Yb GR.parts (by decide)),⟨GR.ok,hB9,hB2⟩,fun x t H9 s9 hp9 ht td tp tok tlt=>fin x H9 s9 ⟨hp9,by rw [Yf,h2]; rfl,ts++[t],(h3.sb s9 Lad.noList_enc).append (.cons ht .nil),fun t' ht'=>?_⟩⟩;rcases Qw ht' with z | z
  ·exact h4 t' z
  ·rw [Qy z]; exact ⟨td,tp,tok,tlt⟩
 obtain ⟨hp8,ul8,ts,hts,gts⟩:=hR;have s58':SB [p] H5 H8:=s57.trans s8;have hg8:=hg7.sb s8;refine z02 ?_;refine ⟨_,rfl,_,rfl,2,rfl,D3,us,rfl,SqL.of hD8,fun D4 nD4=>?_⟩;have t9:=SB.new (ps:=[]) nD4 (.lst (cutV us none (some 2)));have hD9:upd H8 D4 (.lst (cutV us none (some 2))) D4=some (.lst (us.take 2)):=by rw [Qt]; exact congrArg (fun z=>some (HO.lst z)) (z2q us 2)
 have hD38:=t9.keep _ _ hD8 nmn;generalize upd H8 D4 (.lst (cutV us none (some 2)))=H9' at t9 hD9 hD38;refine ⟨D3,D4,_,_,rfl,rfl,hD38,hD9,by rw [List.length_take]; omega,fun D5 nD5=>?_⟩;have t10:=SB.new (ps:=[]) nD5 (.lst (us++us.take 2));have hD10:upd H9' D5 (.lst (us++us.take 2)) D5=some (.lst (us++us.take 2)):=Qt;have s810:=t9.trans t10;generalize upd H9' D5 (.lst (us++us.take 2))=H10 at t10 hD10 s810;have hb10:Bears K H10 Lad.enc (us++us.take 2) (ts++ts.take 2):=(hts.append (hts.take 2)).sb s810 Lad.noList_enc;have s510:SB [p] H5 H10:=s58'.trans s810.nil;have hdk10:=hdk5.sb s510 (by simpa using dp) (nop hp5);have hbk10:=hbk.pot hp5 s510;have hg10:=hg8.sb s810;have bnm:∀ x ∈ g.within,EndK c x.1.1:=fun x hx=>M.ends _ (gn x hx);refine ⟨D5,rfl,⟨_,SqL.of hD10⟩,?_⟩;refine for_it (walk_list (xs:=us++us.take 2)) (fun i σ H11=>SB [] H10 H11/\∃ o10:Option V,σ=[some (.ref a),some (.ref p),some (.ref d),some (.ref bk),some (.ref D),o5,o6,some gv,some wv,some (.ref D3),o10,none]) ⟨SB.refl,none,rfl⟩ (fun i σ H11 hi h=>h.1.sqL nmn (SqL.of hD10)) (fun i x σ H11' H11 hi h y=>?_) (fun σ H11 h=>?_)
 ·obtain ⟨s11,o10,rfl⟩:=h;obtain ⟨rfl,ey⟩:=y;obtain ⟨t,et,ht⟩:=hb10.get ey;obtain ⟨td,tp,tok,tlt⟩:t.deep<=12/\t.parts<=60/\t.Ok (2 ^ 1900)/\t.lt (Gr.rk c (z01 c) g)=true:=by
   rcases Qw (Qu et) with z | z
   ·exact gts t z
   ·exact gts t (List.mem_of_mem_take z)
  have ht11:LA K _ x t:=LA.sb ht s11;have hdk11:=hdk10.sb s11 nmn NoL.nil;have hbk11:=hbk10.sb0 s11;have hg11:=hg10.sb s11;refine z2l ?_;have dB:(2:Int) ^ 1900+2 ^ 1900*(g.deep:Nat)<=2 ^ 1990:=by
   have h1:(2:Int) ^ 1900*(g.deep:Nat)<=2 ^ 1900*1:=Int.mul_le_mul_of_nonneg_left (by omega) (by decide +kernel);have h2:(2:Int) ^ 1901<=2 ^ 1990:=z04 (by decide);have h3:=z0o 1900;omega
  have pt:t.parts+4000*g.deep<=900000:=by omega
  have one:(1:Int)<=2 ^ 1900:=z06 1900;refine ⟨_,rfl,_,rfl,?_⟩;refine ⟨_,rfl,_,rfl,_,rfl,.ref bk,gv,x,c,z01 c,g,t,2 ^ 1900,2 ^ 119,2 ^ 1900,4000,rfl,hbk11,⟨M.ok,M.own,M.R⟩,⟨hg11,by omega,by omega,go,gn,bnm⟩,⟨GR.fitW,GR.lfW,GR.bd⟩,⟨ht11,tok,one,one,by omega,pt,dB⟩,fun _ pp H12 pl ii r n s12 hfa hre hn=>?_,fun z=>absurd (z.symm.trans tlt) (by decide)⟩;have nB:n < 2 ^ 2000:=by
   have:=z04 (show 1990<=1999 by decide);have h3:=z0o 1999;have h4:=z06 1999;omega
  obtain ⟨m0,k,kd,hb,eg,er,_⟩:=id hre;refine ⟨_,rfl,d,pp,gv,x,c,z01 c,c.names,lv,g,t,pl,ii,r,n,2 ^ 119,rfl,(hdk11.sb s12 nmn NoL.nil).l same,M.ok,M.law,⟨hg11.sb s12,go,z06 119,z04 (by decide),gn,by omega,by omega⟩,⟨LA.sb ht11 s12,by omega⟩,hfa,hre,nB,⟨M.fell go gn (by omega) (by omega) hb eg (Qu er) m0 nB,GR.fitL,GR.lfL⟩,fun H13 s13=>?_⟩;refine ⟨_,rfl,iteF ?_⟩;exact ⟨(s11.trans s12).trans s13,_,rfl⟩
 ·exact q _
end
structure Kt (P:Program) (w:World) (K:Qn) (mg:Str->Option Value) (base:Heap) (x:Str) (a:List Str) (st:Stmt) (f:Addr) (fd:FuncData):Prop where
 F:Fun K x x st f fd
 b:Binds K fd a []
 m:mg x=some (.ref f)
section
variable {P:Program} {w:World} {K:Qn} {mg:Str->Option Value} {base:Heap} {x:Str} {a:List Str} {st:Stmt} {f:Addr} {fd:FuncData} {l:Nat} {sp:Sp}
theorem Kt.g (k:Kt P w K mg base x a st f fd) (h:Fun K x x st f fd->FnOk P w K mg base CX0 l f fd a sp):Got P w K mg base x a l sp:=⟨_,_,h k.F,k.F.kp,k.b,k.m⟩
theorem Kt.y (k:Kt P w K mg base x a st f fd) (h:Fun K x x st f fd->FnOk P w K mg base (L2.CX P w) l f fd a sp):GotX P w K mg base x a l sp:=⟨_,_,h k.F,k.F.kp,k.b,k.m⟩
theorem kt (P:Program) (w:World) (K:Qn) (mg:Str->Option Value) (base:Heap) {h:Heap} (X:K.In h) (G:h.Ns mainGlobals mg) (c:He.SaysD fa fn K) (i j:Nat) {x:Str} {st:Stmt} {a:List Str} (h1:fn[i]?=some ⟨(x,none),x,x,defArgs st,defBody st,defScope st,[],[]⟩) (h2:fa[j]?=some (.glo x)) (h3:∀ (kV doc pm:Value) (an:Option Addr) (cdv ct:Value) (us:List Value),us.length=a.length->bindArgs (PySem.W.fnOf x x (defArgs st) (defBody st) (defScope st) .none kV doc pm an cdv ct) ⟨us,[]⟩=pure (a.zip us)):∃ f fd,Kt P w K mg base x a st f fd:=by
 obtain ⟨fd,D⟩:=c.def_ i h1;have F:Fun K x x st _ fd:=He5.fun_of D;exact ⟨_,fd,F,F.binds h3,He.glo_ok X G (c.fact j h2)⟩
theorem kt1 (P:Program) (w:World) (K:Qn) (mg:Str->Option Value) (base:Heap) {h:Heap} (X:K.In h) (G:h.Ns mainGlobals mg) (c:He.SaysD fa fn K) (i j:Nat) {x:Str} {st:Stmt} {a:List Str} (h1:fn[i]?=some ⟨(x,none),x,x,defArgs st,defBody st,defScope st,[],[]⟩) (h2:fa[j]?=some (.glo x)) (hl:a.length=1) (h3:∀ (kV doc pm:Value) (an:Option Addr) (cdv ct u0:Value),bindArgs (PySem.W.fnOf x x (defArgs st) (defBody st) (defScope st) .none kV doc pm an cdv ct) ⟨[u0],[]⟩=pure (a.zip [u0])):∃ f fd,Kt P w K mg base x a st f fd :=
 kt P w K mg base X G c i j h1 h2 fun k d p n v t us z=>match us,(show us.length=1 from z.trans hl) with | [u0],_=>h3 k d p n v t u0
theorem kt2 (P:Program) (w:World) (K:Qn) (mg:Str->Option Value) (base:Heap) {h:Heap} (X:K.In h) (G:h.Ns mainGlobals mg) (c:He.SaysD fa fn K) (i j:Nat) {x:Str} {st:Stmt} {a:List Str} (h1:fn[i]?=some ⟨(x,none),x,x,defArgs st,defBody st,defScope st,[],[]⟩) (h2:fa[j]?=some (.glo x)) (hl:a.length=2) (h3:∀ (kV doc pm:Value) (an:Option Addr) (cdv ct u0 u1:Value),bindArgs (PySem.W.fnOf x x (defArgs st) (defBody st) (defScope st) .none kV doc pm an cdv ct) ⟨[u0,u1],[]⟩=pure (a.zip [u0,u1])):∃ f fd,Kt P w K mg base x a st f fd :=
 kt P w K mg base X G c i j h1 h2 fun k d p n v t us z=>match us,(show us.length=2 from z.trans hl) with | [u0,u1],_=>h3 k d p n v t u0 u1
theorem kt3 (P:Program) (w:World) (K:Qn) (mg:Str->Option Value) (base:Heap) {h:Heap} (X:K.In h) (G:h.Ns mainGlobals mg) (c:He.SaysD fa fn K) (i j:Nat) {x:Str} {st:Stmt} {a:List Str} (h1:fn[i]?=some ⟨(x,none),x,x,defArgs st,defBody st,defScope st,[],[]⟩) (h2:fa[j]?=some (.glo x)) (hl:a.length=3) (h3:∀ (kV doc pm:Value) (an:Option Addr) (cdv ct u0 u1 u2:Value),bindArgs (PySem.W.fnOf x x (defArgs st) (defBody st) (defScope st) .none kV doc pm an cdv ct) ⟨[u0,u1,u2],[]⟩=pure (a.zip [u0,u1,u2])):∃ f fd,Kt P w K mg base x a st f fd :=
 kt P w K mg base X G c i j h1 h2 fun k d p n v t us z=>match us,(show us.length=3 from z.trans hl) with | [u0,u1,u2],_=>h3 k d p n v t u0 u1 u2
theorem kt4 (P:Program) (w:World) (K:Qn) (mg:Str->Option Value) (base:Heap) {h:Heap} (X:K.In h) (G:h.Ns mainGlobals mg) (c:He.SaysD fa fn K) (i j:Nat) {x:Str} {st:Stmt} {a:List Str} (h1:fn[i]?=some ⟨(x,none),x,x,defArgs st,defBody st,defScope st,[],[]⟩) (h2:fa[j]?=some (.glo x)) (hl:a.length=4) (h3:∀ (kV doc pm:Value) (an:Option Addr) (cdv ct u0 u1 u2 u3:Value),bindArgs (PySem.W.fnOf x x (defArgs st) (defBody st) (defScope st) .none kV doc pm an cdv ct) ⟨[u0,u1,u2,u3],[]⟩=pure (a.zip [u0,u1,u2,u3])):∃ f fd,Kt P w K mg base x a st f fd :=
 kt P w K mg base X G c i j h1 h2 fun k d p n v t us z=>match us,(show us.length=4 from z.trans hl) with | [u0,u1,u2,u3],_=>h3 k d p n v t u0 u1 u2 u3
theorem kt5 (P:Program) (w:World) (K:Qn) (mg:Str->Option Value) (base:Heap) {h:Heap} (X:K.In h) (G:h.Ns mainGlobals mg) (c:He.SaysD fa fn K) (i j:Nat) {x:Str} {st:Stmt} {a:List Str} (h1:fn[i]?=some ⟨(x,none),x,x,defArgs st,defBody st,defScope st,[],[]⟩) (h2:fa[j]?=some (.glo x)) (hl:a.length=5) (h3:∀ (kV doc pm:Value) (an:Option Addr) (cdv ct u0 u1 u2 u3 u4:Value),bindArgs (PySem.W.fnOf x x (defArgs st) (defBody st) (defScope st) .none kV doc pm an cdv ct) ⟨[u0,u1,u2,u3,u4],[]⟩=pure (a.zip [u0,u1,u2,u3,u4])):∃ f fd,Kt P w K mg base x a st f fd :=
 kt P w K mg base X G c i j h1 h2 fun k d p n v t us z=>match us,(show us.length=5 from z.trans hl) with | [u0,u1,u2,u3,u4],_=>h3 k d p n v t u0 u1 u2 u3 u4
end
theorem facts {P:Program} {w:World} {K:Qn} {h:Heap} {mg:Str->Option Value} {f:Addr} (X:K.In h) (G:h.Ns mainGlobals mg) (hfa:mg ("law":Str)=some (.ref f)) (c:He.SaysD fa fn K) (cx:exOk K=true) :
  ∃ fd:FuncData,(∀ (s:Shared) (v:Value),BindsTo s fd ⟨[v],[]⟩ [("_law_script",v)])/\∀ base:Heap,K.In base->base.Ns mainGlobals mg->FnOk P w K mg base CX0 230 f fd ["_law_script"] (spLaw K):=by
 obtain ⟨fd_q57,D_q57⟩:=c.def_ 70 (d:=zd5) rfl;have F_q57:Fun K "law" "law" z2d _ fd_q57:=He5.fun_of D_q57;have m_q57:=He.glo_ok X G (c.fact 70 (f:=.glo "law") rfl);obtain ⟨fd_q5,D_q5⟩:=c.def_ 71 (d:=d_q5) rfl;have F_q5:Fun K "__init__" "NoKind.__init__" s_q5 _ fd_q5:=He5.fun_of D_q5;have b_q5:=F_q5.binds (ps:=["self","kind"]) fun _ _ _ _ _ _ us hl=>match us,hl with | [_,_],_=>rfl
 obtain ⟨fd_q4,D_q4⟩:=c.def_ 72 (d:=d_q4) rfl;have F_q4:Fun K "__init__" "Endless.__init__" s_q4 _ fd_q4:=He5.fun_of D_q4;have b_q4:=F_q4.binds (ps:=["self","kind"]) fun _ _ _ _ _ _ us hl=>match us,hl with | [_,_],_=>rfl
 obtain ⟨fd_q0,D_q0⟩:=c.def_ 73 (d:=d_q0) rfl;have F_q0:Fun K "__init__" "Book.__init__" s_q0 _ fd_q0:=He5.fun_of D_q0;have b_q0:=F_q0.binds (ps:=["self","kinds"]) fun _ _ _ _ _ _ us hl=>match us,hl with | [_,_],_=>rfl
 obtain ⟨fd_q1,D_q1⟩:=c.def_ 74 (d:=d_q1) rfl;have F_q1:Fun K "names" "Book.names" s_q1 _ fd_q1:=He5.fun_of D_q1;have b_q1:=F_q1.binds (ps:=["self"]) fun _ _ _ _ _ _ us hl=>match us,hl with | [_],_=>rfl
 obtain ⟨fd_q3,D_q3⟩:=c.def_ 75 (d:=d_q3) rfl;have F_q3:Fun K "spreads" "Book.spreads" s_q3 _ fd_q3:=He5.fun_of D_q3;have b_q3:=F_q3.binds (ps:=["self","name"]) fun _ _ _ _ _ _ us hl=>match us,hl with | [_,_],_=>rfl
 obtain ⟨fd_q2,D_q2⟩:=c.def_ 76 (d:=d_q2) rfl;have F_q2:Fun K "rules" "Book.rules" s_q2 _ fd_q2:=He5.fun_of D_q2;have b_q2:=F_q2.binds (ps:=["self","name"]) fun _ _ _ _ _ _ us hl=>match us,hl with | [_,_],_=>rfl
 have B:BI mg:=⟨He.free_ok X G (c.fact 71 (f:=.free "len") rfl),He.free_ok X G (c.fact 72 (f:=.free "isinstance") rfl),He.free_ok X G (c.fact 73 (f:=.free "int") rfl),He.free_ok X G (c.fact 74 (f:=.free "bool") rfl),He.free_ok X G (c.fact 75 (f:=.free "str") rfl),He.free_ok X G (c.fact 76 (f:=.free "tuple") rfl),He.free_ok X G (c.fact 77 (f:=.free "list") rfl),He.free_ok X G (c.fact 78 (f:=.free "all") rfl),He.free_ok X G (c.fact 79 (f:=.free "zip") rfl),He.free_ok X G (c.fact 80 (f:=.free "sum") rfl),He.free_ok X G (c.fact 81 (f:=.free "max") rfl),He.free_ok X G (c.fact 82 (f:=.free "range") rfl),He.free_ok X G (c.fact 83 (f:=.free "enumerate") rfl),He.free_ok X G (c.fact 84 (f:=.free "abs") rfl),He.free_ok X G (c.fact 85 (f:=.free "sorted") rfl),He.free_ok X G (c.fact 86 (f:=.free "min") rfl),He.free_ok X G (c.fact 87 (f:=.free "reversed") rfl),He.free_ok X G (c.fact 88 (f:=.free "any") rfl),He.free_ok X G (c.fact 89 (f:=.free "set") rfl),He.free_ok X G (c.fact 90 (f:=.free "dict") rfl),He.free_ok X G (c.fact 91 (f:=.free "repr") rfl)⟩;obtain ⟨xk_NoKind,cx⟩:=He.ba cx;obtain ⟨xk_Endless,cx⟩:=He.ba cx;obtain ⟨xt_NO_GROVES,cx⟩:=He.ba cx;have W_NO_GROVES:=zde xt_NO_GROVES;have L_LETTERS:=He.str_ok X G (c.fact 92 (f:=.str "LETTERS" "abcdefghijklmnopqrstuvwxyz") rfl);have L_LONGEST_NAME:=He.int_ok X G (c.fact 93 (f:=.int "LONGEST_NAME" (8)) rfl);have L_MOST_KINDS:=He.int_ok X G (c.fact 94 (f:=.int "MOST_KINDS" (8)) rfl);have L_MOST_RULES:=He.int_ok X G (c.fact 95 (f:=.int "MOST_RULES" (4)) rfl);have L_MOST_RULE_PARTS:=He.int_ok X G (c.fact 96 (f:=.int "MOST_RULE_PARTS" (4)) rfl);have L_MOST_MANY:=He.int_ok X G (c.fact 97 (f:=.int "MOST_MANY" (1000000000)) rfl);have V_NO_GROVES:=He.glo_ok X G (c.fact 98 (f:=.glo "NO_GROVES") rfl);have O_NoBook:Own K mg "NoBook" (He.ga K "NoBook"):=by
  obtain ⟨y1,y2,y3,y4⟩:=He.exc_ok (c.fact 99 (f:=.exc "NoBook") rfl);exact ⟨He.glo_ok X G (c.fact 100 (f:=.glo "NoBook") rfl),y1,y2,y3,y4⟩
 have O_NoPlace:Own K mg "NoPlace" (He.ga K "NoPlace"):=by
  obtain ⟨y1,y2,y3,y4⟩:=He.exc_ok (c.fact 101 (f:=.exc "NoPlace") rfl);exact ⟨He.glo_ok X G (c.fact 102 (f:=.glo "NoPlace") rfl),y1,y2,y3,y4⟩
 have O_NoReach:Own K mg "NoReach" (He.ga K "NoReach"):=by
  obtain ⟨y1,y2,y3,y4⟩:=He.exc_ok (c.fact 103 (f:=.exc "NoReach") rfl);exact ⟨He.glo_ok X G (c.fact 104 (f:=.glo "NoReach") rfl),y1,y2,y3,y4⟩
 have O_NoRest:Own K mg "NoRest" (He.ga K "NoRest"):=by
  obtain ⟨y1,y2,y3,y4⟩:=He.exc_ok (c.fact 105 (f:=.exc "NoRest") rfl);exact ⟨He.glo_ok X G (c.fact 106 (f:=.glo "NoRest") rfl),y1,y2,y3,y4⟩
 have m_NoKind:=He.glo_ok X G (c.fact 107 (f:=.glo "NoKind") rfl);have h_NoKind:=He.meth_ok (c.fact 108 (f:=.meth "NoKind" "__init__") rfl);have n_NoKind:=He.noat_ok (c.fact 109 (f:=.noat "NoKind" "kind") rfl);have m_Endless:=He.glo_ok X G (c.fact 110 (f:=.glo "Endless") rfl);have h_Endless:=He.meth_ok (c.fact 111 (f:=.meth "Endless" "__init__") rfl);have n_Endless:=He.noat_ok (c.fact 112 (f:=.noat "Endless" "kind") rfl);have m_Book:=He.glo_ok X G (c.fact 113 (f:=.glo "Book") rfl);have c_Book:=He.cls_ok (c.fact 114 (f:=.cls "Book") rfl);have T_Book:ClsF K (He.ga K "Book") ["spread_by_name","rows_by_name"]:=⟨c_Book,fun f hf=>by
   rcases Qv hf with e | hf
   ·rw [e]; exact He.noat_ok (c.fact 115 (f:=.noat "Book" "spread_by_name") rfl)
   rcases Qv hf with e | hf
   ·rw [e]; exact He.noat_ok (c.fact 116 (f:=.noat "Book" "rows_by_name") rfl)
   exact nomatch hf⟩
 have h_q0:=He.mkr_ok (c.fact 117 (f:=.mkr "Book") rfl);have h_q1:=He.meth_ok (c.fact 118 (f:=.meth "Book" "names") rfl);have h_q3:=He.meth_ok (c.fact 119 (f:=.meth "Book" "spreads") rfl);have h_q2:=He.meth_ok (c.fact 120 (f:=.meth "Book" "rules") rfl);have e:=hfa.symm.trans m_q57;cases e;have b:=FunD.bindsA (ps:=["_law_script"]) D_q57 fun _ _ _ _ _ _ us hl=>match us,hl with | [_],_=>rfl
 refine ⟨fd_q57,fun s v=>b s [v] rfl,fun base _ _=>?_⟩;obtain ⟨_,_,k_is_whole⟩:=kt1 P w K mg base X G c 0 0 (a:=["thing"]) rfl rfl rfl fun _ _ _ _ _ _ _=>rfl;obtain ⟨_,_,k_is_many⟩:=kt1 P w K mg base X G c 1 1 (a:=["thing"]) rfl rfl rfl fun _ _ _ _ _ _ _=>rfl;obtain ⟨_,_,k_is_name⟩:=kt1 P w K mg base X G c 2 2 (a:=["thing"]) rfl rfl rfl fun _ _ _ _ _ _ _=>rfl;obtain ⟨_,_,k_is_rising⟩:=kt1 P w K mg base X G c 3 3 (a:=["things"]) rfl rfl rfl fun _ _ _ _ _ _ _=>rfl;obtain ⟨_,_,k_joined⟩:=kt1 P w K mg base X G c 4 4 (a:=["pairs"]) rfl rfl rfl fun _ _ _ _ _ _ _=>rfl;obtain ⟨_,_,k_many_at⟩:=kt2 P w K mg base X G c 5 5 (a:=["pairs","thing"]) rfl rfl rfl fun _ _ _ _ _ _ _ _=>rfl;obtain ⟨_,_,k_run_of⟩:=kt3 P w K mg base X G c 6 6 (a:=["text","at","signs"]) rfl rfl rfl fun _ _ _ _ _ _ _ _ _=>rfl;obtain ⟨_,_,k_is_tree⟩:=kt1 P w K mg base X G c 7 7 (a:=["thing"]) rfl rfl rfl fun _ _ _ _ _ _ _=>rfl;obtain ⟨_,_,k_is_grove⟩:=kt1 P w K mg base X G c 8 8 (a:=["thing"]) rfl rfl rfl fun _ _ _ _ _ _ _=>rfl;obtain ⟨_,_,k_are_grove_pairs⟩:=kt1 P w K mg base X G c 9 9 (a:=["things"]) rfl rfl rfl fun _ _ _ _ _ _ _=>rfl;obtain ⟨_,_,k_pairs_within⟩:=kt1 P w K mg base X G c 10 10 (a:=["grove"]) rfl rfl rfl fun _ _ _ _ _ _ _=>rfl;obtain ⟨_,_,k_kinds_within⟩:=kt1 P w K mg base X G c 11 11 (a:=["grove"]) rfl rfl rfl fun _ _ _ _ _ _ _=>rfl;obtain ⟨_,_,k_rules_from_nought⟩:=kt2 P w K mg base X G c 12 12 (a:=["book","name"]) rfl rfl rfl fun _ _ _ _ _ _ _ _=>rfl;obtain ⟨_,_,k_check_kind⟩:=kt2 P w K mg base X G c 13 13 (a:=["book","name"]) rfl rfl rfl fun _ _ _ _ _ _ _ _=>rfl;obtain ⟨_,_,k_check_kinds⟩:=kt2 P w K mg base X G c 14 14 (a:=["book","grove"]) rfl rfl rfl fun _ _ _ _ _ _ _ _=>rfl;obtain ⟨_,_,k_are_kinds⟩:=kt1 P w K mg base X G c 15 15 (a:=["things"]) rfl rfl rfl fun _ _ _ _ _ _ _=>rfl;obtain ⟨_,_,k_is_kind⟩:=kt1 P w K mg base X G c 16 16 (a:=["thing"]) rfl rfl rfl fun _ _ _ _ _ _ _=>rfl;obtain ⟨_,_,k_is_rule⟩:=kt1 P w K mg base X G c 17 17 (a:=["thing"]) rfl rfl rfl fun _ _ _ _ _ _ _=>rfl;obtain ⟨_,_,k_is_rule_of⟩:=kt2 P w K mg base X G c 18 18 (a:=["rule","names"]) rfl rfl rfl fun _ _ _ _ _ _ _ _=>rfl;obtain ⟨_,_,k_tree_at⟩:=kt2 P w K mg base X G c 19 19 (a:=["grove","place"]) rfl rfl rfl fun _ _ _ _ _ _ _ _=>rfl;obtain ⟨_,_,k_all_places⟩:=kt1 P w K mg base X G c 20 20 (a:=["grove"]) rfl rfl rfl fun _ _ _ _ _ _ _=>rfl;obtain ⟨_,_,k_steps_of⟩:=kt2 P w K mg base X G c 21 21 (a:=["book","name"]) rfl rfl rfl fun _ _ _ _ _ _ _ _=>rfl;obtain ⟨_,_,k_steps_in⟩:=kt4 P w K mg base X G c 22 22 (a:=["name","rule","word","grove"]) rfl rfl rfl fun _ _ _ _ _ _ _ _ _ _=>rfl;obtain ⟨_,_,k_leads⟩:=kt2 P w K mg base X G c 23 23 (a:=["book","name"]) rfl rfl rfl fun _ _ _ _ _ _ _ _=>rfl;obtain ⟨_,_,k_ending_kinds⟩:=kt1 P w K mg base X G c 24 24 (a:=["book"]) rfl rfl rfl fun _ _ _ _ _ _ _=>rfl;obtain ⟨_,_,k_lead_into⟩:=kt2 P w K mg base X G c 25 25 (a:=["led","ending"]) rfl rfl rfl fun _ _ _ _ _ _ _ _=>rfl;obtain ⟨_,_,k_endless_kinds⟩:=kt1 P w K mg base X G c 26 26 (a:=["book"]) rfl rfl rfl fun _ _ _ _ _ _ _=>rfl;obtain ⟨_,_,k_check_ends⟩:=kt2 P w K mg base X G c 27 27 (a:=["book","grove"]) rfl rfl rfl fun _ _ _ _ _ _ _ _=>rfl;obtain ⟨_,_,k_number⟩:=kt1 P w K mg base X G c 28 28 (a:=["many"]) rfl rfl rfl fun _ _ _ _ _ _ _=>rfl;obtain ⟨_,_,k_is_less⟩:=kt2 P w K mg base X G c 29 29 (a:=["one","other"]) rfl rfl rfl fun _ _ _ _ _ _ _ _=>rfl;obtain ⟨_,_,k_alike_ahead⟩:=kt2 P w K mg base X G c 30 30 (a:=["one","other"]) rfl rfl rfl fun _ _ _ _ _ _ _ _=>rfl;obtain ⟨_,_,k_behind⟩:=kt2 P w K mg base X G c 31 31 (a:=["one","other"]) rfl rfl rfl fun _ _ _ _ _ _ _ _=>rfl;obtain ⟨_,_,k_both⟩:=kt2 P w K mg base X G c 32 32 (a:=["one","other"]) rfl rfl rfl fun _ _ _ _ _ _ _ _=>rfl;obtain ⟨_,_,k_all_together⟩:=kt1 P w K mg base X G c 33 33 (a:=["some"]) rfl rfl rfl fun _ _ _ _ _ _ _=>rfl;obtain ⟨_,_,k_many_of⟩:=kt2 P w K mg base X G c 34 34 (a:=["ladder","many"]) rfl rfl rfl fun _ _ _ _ _ _ _ _=>rfl;obtain ⟨_,_,k_rest⟩:=kt2 P w K mg base X G c 35 35 (a:=["one","other"]) rfl rfl rfl fun _ _ _ _ _ _ _ _=>rfl;obtain ⟨_,_,k_power⟩:=kt1 P w K mg base X G c 36 36 (a:=["ladder"]) rfl rfl rfl fun _ _ _ _ _ _ _=>rfl;obtain ⟨_,_,k_above⟩:=kt2 P w K mg base X G c 37 37 (a:=["one","other"]) rfl rfl rfl fun _ _ _ _ _ _ _ _=>rfl;obtain ⟨_,_,k_spread⟩:=kt2 P w K mg base X G c 38 38 (a:=["one","other"]) rfl rfl rfl fun _ _ _ _ _ _ _ _=>rfl;obtain ⟨_,_,k_own_ranks⟩:=kt1 P w K mg base X G c 39 39 (a:=["book"]) rfl rfl rfl fun _ _ _ _ _ _ _=>rfl;obtain ⟨_,_,k_climb⟩:=kt3 P w K mg base X G c 40 40 (a:=["book","worths","rule"]) rfl rfl rfl fun _ _ _ _ _ _ _ _ _=>rfl;obtain ⟨_,_,k_reckoned⟩:=kt3 P w K mg base X G c 41 41 (a:=["book","worths","grove"]) rfl rfl rfl fun _ _ _ _ _ _ _ _ _=>rfl;obtain ⟨_,_,k_reckoned_tree⟩:=kt3 P w K mg base X G c 42 42 (a:=["book","worths","tree"]) rfl rfl rfl fun _ _ _ _ _ _ _ _ _=>rfl;obtain ⟨_,_,k_laden⟩:=kt4 P w K mg base X G c 43 43 (a:=["book","kind","own","inner"]) rfl rfl rfl fun _ _ _ _ _ _ _ _ _ _=>rfl;obtain ⟨_,_,k_fall_to⟩:=kt3 P w K mg base X G c 44 44 (a:=["book","grove","ladder"]) rfl rfl rfl fun _ _ _ _ _ _ _ _ _=>rfl;obtain ⟨_,_,k_fall_in_grove⟩:=kt4 P w K mg base X G c 45 45 (a:=["book","owns","grove","goal"]) rfl rfl rfl fun _ _ _ _ _ _ _ _ _ _=>rfl;obtain ⟨_,_,k_goal_of_one⟩:=kt3 P w K mg base X G c 46 46 (a:=["whole","ladder","goal"]) rfl rfl rfl fun _ _ _ _ _ _ _ _ _=>rfl;obtain ⟨_,_,k_lowered⟩:=kt1 P w K mg base X G c 47 47 (a:=["ladder"]) rfl rfl rfl fun _ _ _ _ _ _ _=>rfl;obtain ⟨_,_,k_rest_or_nought⟩:=kt2 P w K mg base X G c 48 48 (a:=["one","other"]) rfl rfl rfl fun _ _ _ _ _ _ _ _=>rfl;obtain ⟨_,_,k_fall_in_tree⟩:=kt4 P w K mg base X G c 49 49 (a:=["book","owns","tree","goal"]) rfl rfl rfl fun _ _ _ _ _ _ _ _ _ _=>rfl;obtain ⟨_,_,k_further_needed⟩:=kt1 P w K mg base X G c 50 50 (a:=["goal"]) rfl rfl rfl fun _ _ _ _ _ _ _=>rfl;obtain ⟨_,_,k_fall_of_bare⟩:=kt4 P w K mg base X G c 51 51 (a:=["book","owns","kind","goal"]) rfl rfl rfl fun _ _ _ _ _ _ _ _ _ _=>rfl;obtain ⟨_,_,k__law_pot⟩:=kt1 P w K mg base X G c 52 52 (a:=["_law_script"]) rfl rfl rfl fun _ _ _ _ _ _ _=>rfl;obtain ⟨_,_,k__law_take⟩:=kt2 P w K mg base X G c 53 53 (a:=["_law_pot_here","_law_many"]) rfl rfl rfl fun _ _ _ _ _ _ _ _=>rfl;obtain ⟨_,_,k__law_less⟩:=kt2 P w K mg base X G c 54 54 (a:=["_law_one","_law_other"]) rfl rfl rfl fun _ _ _ _ _ _ _ _=>rfl;obtain ⟨_,_,k__law_behind⟩:=kt2 P w K mg base X G c 55 55 (a:=["_law_one","_law_other"]) rfl rfl rfl fun _ _ _ _ _ _ _ _=>rfl;obtain ⟨_,_,k__law_both⟩:=kt2 P w K mg base X G c 56 56 (a:=["_law_one","_law_other"]) rfl rfl rfl fun _ _ _ _ _ _ _ _=>rfl;obtain ⟨_,_,k__law_above⟩:=kt2 P w K mg base X G c 57 57 (a:=["_law_one","_law_other"]) rfl rfl rfl fun _ _ _ _ _ _ _ _=>rfl;obtain ⟨_,_,k__law_own⟩:=kt3 P w K mg base X G c 58 58 (a:=["_law_book","_law_known","_law_name"]) rfl rfl rfl fun _ _ _ _ _ _ _ _ _=>rfl;obtain ⟨_,_,k__law_rank⟩:=kt3 P w K mg base X G c 59 59 (a:=["_law_book","_law_known","_law_grove"]) rfl rfl rfl fun _ _ _ _ _ _ _ _ _=>rfl;obtain ⟨_,_,k__law_grove_of⟩:=kt1 P w K mg base X G c 60 60 (a:=["_law_pairs"]) rfl rfl rfl fun _ _ _ _ _ _ _=>rfl;obtain ⟨_,_,k__law_fall⟩:=kt5 P w K mg base X G c 61 61 (a:=["_law_book","_law_grove","_law_place","_law_rule","_law_number"]) rfl rfl rfl fun _ _ _ _ _ _ _ _ _ _ _=>rfl;obtain ⟨_,_,k__law_names⟩:=kt2 P w K mg base X G c 62 62 (a:=["_law_pot_here","_law_many"]) rfl rfl rfl fun _ _ _ _ _ _ _ _=>rfl;obtain ⟨_,_,k__law_drawn_grove⟩:=kt4 P w K mg base X G c 63 63 (a:=["_law_pot_here","_law_names_here","_law_parts","_law_great"]) rfl rfl rfl fun _ _ _ _ _ _ _ _ _ _=>rfl;obtain ⟨_,_,k__law_drawn_book⟩:=kt2 P w K mg base X G c 64 64 (a:=["_law_pot_here","_law_most"]) rfl rfl rfl fun _ _ _ _ _ _ _ _=>rfl;obtain ⟨_,_,k__law_kinds⟩:=kt2 P w K mg base X G c 65 65 (a:=["_law_book","_law_turned"]) rfl rfl rfl fun _ _ _ _ _ _ _ _=>rfl;obtain ⟨_,_,k__law_lesser⟩:=kt3 P w K mg base X G c 66 66 (a:=["_law_pot_here","_law_ladder_here","_law_tail"]) rfl rfl rfl fun _ _ _ _ _ _ _ _ _=>rfl;obtain ⟨_,_,k__law_sizes⟩:=kt1 P w K mg base X G c 67 67 (a:=["_law_ladder_here"]) rfl rfl rfl fun _ _ _ _ _ _ _=>rfl;obtain ⟨_,_,k__law_goal_here⟩:=kt2 P w K mg base X G c 68 68 (a:=["_law_pot_here","_law_ladder_here"]) rfl rfl rfl fun _ _ _ _ _ _ _ _=>rfl;obtain ⟨_,_,k__law_reaches⟩:=kt4 P w K mg base X G c 69 69 (a:=["_law_book","_law_grove","_law_told","_law_goal_here"]) rfl rfl rfl fun _ _ _ _ _ _ _ _ _ _=>rfl;have g_q53:=k_is_whole.g (zg5 B);have g_q47:Got P w K mg base "is_many" ["thing"] 2 (z5s K []):=k_is_many.g (zev B g_q53);have g_q49:=k_is_rising.g (ze1 B);have g_q72:=k_run_of.g (zfk B);have g_q48:=k_is_name.g (zfj B L_LETTERS L_LONGEST_NAME g_q72);have r_grove:∀ n,Got P w K mg base "is_tree" ["thing"] (n+3) (z1j K n)/\Got P w K mg base "is_grove" ["thing"] (n+3) (z1d K n)/\Got P w K mg base "are_grove_pairs" ["things"] (n+3) (z23 K true n):=by
  intro n
  induction n with
  | zero=>exact ⟨k_is_tree.g (fun _=>zbw),k_is_grove.g (fun _=>zce),k_are_grove_pairs.g (fun _=>zbl)⟩
  | succ n ih=>exact ⟨k_is_tree.g (zf0 B g_q48 ih.2.1),k_is_grove.g (zgd B g_q49 ih.2.2),k_are_grove_pairs.g (ze6 B g_q47 ih.1)⟩
 have g_q52:Got P w K mg base "is_tree" ["thing"] 84 (z1j K 81):=(r_grove 81).1;have g_q44:Got P w K mg base "is_grove" ["thing"] 84 (z1d K 81):=(r_grove 81).2.1;have gL_are_grove_pairs:=k_are_grove_pairs.g (z36 B g_q47 (r_grove 59).1);have g_q63:=k_number.g zg4;have g_q46:=k_is_less.g zf6;have g_q66:=k_power.g zfq;have r_q65:∀ n,Got P w K mg base "pairs_within" ["grove"] (n) (z1c K n):=by
  intro n
  induction n with
  | zero=>exact k_pairs_within.g (fun _=>zbx)
  | succ n ih=>exact k_pairs_within.g (zf9 ih)
 have g_q65:=r_q65 70;have g_q76:=k_tree_at.y (zdz B O_NoPlace g_q53);have g_q13:=k__law_grove_of.g (z6r B);have g_q61:=k_many_at.g (zew B);have g_q30:=k_behind.g (zgk B g_q46 g_q61);have g_q25:=k_alike_ahead.g (zfa B);have g_q69:=k_rest.y (zf3 B O_NoRest g_q46 g_q25);have g_q54:=k_joined.g (zaq Lad.noList_enc Lad.eqv_enc B);have gG_q54:=k_joined.g (zaq Gr.noList_tEnc (Orderly.eq (enc:=Gr.tEnc)) B);have g_q27:=k_all_together.g (zg8 B g_q54);have g_q31:=k_both.g (zfu g_q27);have g_q24:=k_above.g (ze8 B g_q46 g_q63 g_q66 g_q30 g_q31);have g_q73:=k_spread.g (zgh g_q66 g_q30);have g_q62:=k_many_of.g (zei B);have g_q55:=k_kinds_within.g (zen B g_q65);have O_NoKind:OwnI P w K mg base "NoKind" (He.ga K "NoKind") 1:=⟨m_NoKind,z8l xk_NoKind,n_NoKind,⟨_,_,h_NoKind.at_,beq_iff_eq.mp h_NoKind.fn,zhi F_q5,b_q5⟩⟩;have g_q1:GotM P w K mg base (He.ga K "Book") "names" ["self"] (1) (z1z K (He.ga K "Book")):=⟨_,_,zhb B T_Book F_q1,h_q1,b_q1,c_Book⟩;have g_q33:=k_check_kind.y (zep B O_NoKind g_q1);have g_q2:z2e P w K mg base (He.ga K "Book") "rules" ["self","name"] (4) (z2w K (He.ga K "Book") (He.ga K "NoKind")):=⟨_,_,zjs B T_Book g_q33 F_q2,h_q2,b_q2,c_Book⟩;have g_q71:=k_rules_from_nought.y (zgo B V_NO_GROVES W_NO_GROVES g_q2);have g_q34:=k_check_kinds.y (zed B g_q55 g_q33);have g_q50:=k_is_rule.g (zfy B L_MOST_RULE_PARTS L_MOST_MANY g_q44 g_q65);have g_q45:=k_is_kind.g (zfl B L_MOST_RULES g_q48 g_q50);have g_q51:=k_is_rule_of.g (zg0 B g_q65);have g_q29:=k_are_kinds.g (zef B L_MOST_KINDS g_q45 g_q51);have r_q26:∀ n,Got P w K mg base "all_places" ["grove"] (n) (z2k K n):=by
  intro n
  induction n with
  | zero=>exact k_all_places.g (fun _=>zc6)
  | succ n ih=>exact k_all_places.g (zel B ih)
 have g_q26:Got P w K mg base "all_places" ["grove"] (20) (z2k K 20):=r_q26 20;have g_q74:=k_steps_in.g (zdy B g_q26 g_q76);have g_q75:=k_steps_of.y (zem B g_q2 g_q74);have g_q59:=k_leads.y (zeb B g_q75);have g_q58:=k_lead_into.g (zeq B);have g_q36:=k_ending_kinds.g (zej B g_q1 g_q59 g_q58);have g_q37:=k_endless_kinds.g (zf7 B g_q36 g_q1);have O_Endless:OwnI P w K mg base "Endless" (He.ga K "Endless") 1:=⟨m_Endless,z8l xk_Endless,n_Endless,⟨_,_,h_Endless.at_,beq_iff_eq.mp h_Endless.fn,zgs F_q4,b_q4⟩⟩;have g_q32:=k_check_ends.y (zfp B O_Endless g_q37 g_q55);have g_q3:z2e P w K mg base (He.ga K "Book") "spreads" ["self","name"] (4) (z1s K (He.ga K "Book") (He.ga K "NoKind")):=⟨_,_,zhx B T_Book g_q33 F_q3,h_q3,b_q3,c_Book⟩;have g_q56:=k_laden.g (zer B g_q3 g_q73 g_q30);have r_reck:∀ n,Got P w K mg base "reckoned" ["book","worths","grove"] (2*n+5) (z1f K (He.ga K "Book") n):=by
  intro n
  induction n with
  | zero=>exact k_reckoned.g (fun _=>z9y)
  | succ n ih =>
   have h1:Got P w K mg base "reckoned_tree" ["book","worths","tree"] (2*n+6) (z1l K (He.ga K "Book") n):=k_reckoned_tree.g (zad B g_q56 ih);exact k_reckoned.g (zgc B g_q27 g_q62 h1)
 have g_q67:Got P w K mg base "reckoned" ["book","worths","grove"] 45 (z1f K (He.ga K "Book") 20):=r_reck 20;have g_q68:=k_reckoned_tree.g (zad (n:=20) B g_q56 g_q67);have g_q35:=k_climb.g (zex B g_q24 g_q67);have g_q64:=k_own_ranks.g (zfn B g_q36 g_q71 g_q35);have g_q40:=k_fall_of_bare.y (zg9 B g_q71 g_q35 g_q46 g_q67 g_q61);have g_q70:=k_rest_or_nought.y (zfo B g_q46 g_q69);have g_q42:=k_further_needed.g (zge B);have g_q60:=k_lowered.g (zeh B);have g_q43:=k_goal_of_one.y (zgn B g_q30 g_q70 g_q60);have r_fallG:∀ n,GotX P w K mg base "fall_in_grove" ["book","owns","grove","goal"] (2*n+51) (z1v K (He.ga K "Book") n):=by
  intro n
  induction n with
  | zero=>exact k_fall_in_grove.y (fun _=>z9r)
  | succ n ih =>
   have h1:GotX P w K mg base "fall_in_tree" ["book","owns","tree","goal"] (2*n+52) (z4q K (He.ga K "Book") n):=k_fall_in_tree.y (ze3 B g_q40 g_q3 ih g_q70 g_q42);exact k_fall_in_grove.y (ze2 B g_q68 g_q27 g_q62 h1 g_q43)
 have g_q38:GotX P w K mg base "fall_in_grove" ["book","owns","grove","goal"] 91 (z1v K (He.ga K "Book") 20):=r_fallG 20;have g_q41:=k_fall_to.y (zfc B O_NoReach g_q34 g_q32 g_q64 g_q46 g_q67 g_q38);have g_q19:=k__law_pot.g (zfg B);have g_q23:=k__law_take.g (zet B);have r_q15:∀ n,Got P w K mg base "_law_less" ["_law_one","_law_other"] (n) (z0z K n):=by
  intro n
  induction n with
  | zero=>exact k__law_less.g (fun _=>z5n)
  | succ n ih=>exact k__law_less.g (ze9 B ih)
 have g_q15:Got P w K mg base "_law_less" ["_law_one","_law_other"] (40) (z0z K 40):=r_q15 40;have g_q7:=k__law_behind.g (zi4 B g_q15);have g_q8:=k__law_both.g (zhz B g_q15);have g_q6:=k__law_above.g (ziz B g_q8 g_q15 g_q7);have r_lrank:∀ n,Got P w K mg base "_law_rank" ["_law_book","_law_known","_law_grove"] (n+43) (z29 K n)/\Got P w K mg base "_law_own" ["_law_book","_law_known","_law_name"] (n+43) (z5e K n):=by
  intro n
  induction n with
  | zero=>exact ⟨k__law_rank.g (fun _=>zcc),k__law_own.g (fun _=>zbe)⟩
  | succ n ih=>exact ⟨k__law_rank.g (zfd B ih.2 ih.1 g_q7 g_q8),k__law_own.g (zgl B g_q6 ih.1 g_q15)⟩
 have g_q20:Got P w K mg base "_law_rank" ["_law_book","_law_known","_law_grove"] 220 (z29 K 177):=(r_lrank 177).1;have g_q18:Got P w K mg base "_law_own" ["_law_book","_law_known","_law_name"] 220 (z5e K 177):=(r_lrank 177).2;have r_q11:∀ n,Got P w K mg base "_law_fall" ["_law_book","_law_grove","_law_place","_law_rule","_law_number"] (n+1) (z1y K n):=by
  intro n
  induction n with
  | zero=>exact k__law_fall.g (fun _=>zc3)
  | succ n ih=>exact k__law_fall.g (zfr B g_q13 ih)
 have g_q11:Got P w K mg base "_law_fall" ["_law_book","_law_grove","_law_place","_law_rule","_law_number"] (20+1) (z1y K 20):=r_q11 20;have g_q17:=k__law_names.g (zf8 B g_q23);have r_q10:∀ n,Got P w K mg base "_law_drawn_grove" ["_law_pot_here","_law_names_here","_law_parts","_law_great"] (n+1) (z1i K n):=by
  intro n
  induction n with
  | zero=>exact k__law_drawn_grove.g (fun _=>zcb)
  | succ n ih=>exact k__law_drawn_grove.g (ze5 B g_q23 ih g_q13)
 have g_q10:Got P w K mg base "_law_drawn_grove" ["_law_pot_here","_law_names_here","_law_parts","_law_great"] (13+1) (z1i K 13):=r_q10 13;have g_q9:=k__law_drawn_book.g (zid B g_q17 g_q23 g_q10);have g_q14:=k__law_kinds.g (zeg B);have r_q16:∀ n,Got P w K mg base "_law_lesser" ["_law_pot_here","_law_ladder_here","_law_tail"] (n+2) (z1x K n):=by
  intro n
  induction n with
  | zero=>exact k__law_lesser.g (fun _=>z4e)
  | succ n ih=>exact k__law_lesser.g (zg7 B g_q23 ih)
 have g_q16:Got P w K mg base "_law_lesser" ["_law_pot_here","_law_ladder_here","_law_tail"] (31+2) (z1x K 31):=r_q16 31;have r_q22:∀ n,Got P w K mg base "_law_sizes" ["_law_ladder_here"] (n) (z1n K n):=by
  intro n
  induction n with
  | zero=>exact k__law_sizes.g (fun _=>z4s)
  | succ n ih=>exact k__law_sizes.g (ze7 B ih)
 have g_q22:Got P w K mg base "_law_sizes" ["_law_ladder_here"] (40) (z1n K 40):=r_q22 40;have g_q12:=k__law_goal_here.g (zgb B g_q23 g_q16 g_q22);have g_q21:=k__law_reaches.g (ze4 B g_q20 g_q11 g_q15);have g_q0:GotI P w K mg base "Book" (He.ga K "Book") ["self","kinds"] (88) (z47 K (He.ga K "Book") (He.ga K "NoBook")):=⟨_,_,zit B O_NoBook T_Book g_q29 F_q0,h_q0,b_q0,m_Book⟩;exact zff B g_q19 g_q9 g_q0 g_q14 g_q23 g_q13 g_q20 g_q12 g_q21 g_q41 F_q57
end FT
open PySem PySem.W PySem.Calls PyProof.Rows
set_option maxRecDepth 100000 in
set_option maxHeartbeats 0 in
theorem PySem.Challenge.cw_felltimber_k53_reaching_by_bare_trees_holds : PySem.Challenge.rw_felltimber_k53_reaching_by_bare_trees.Holds := by
 w_on; o_law
 refine HandSHeadRun.head_any (r := OpenLaw.row PySem.Challenge.rw_felltimber_k53_reaching_by_bare_trees) (q := view (OpenLaw.row PySem.Challenge.rw_felltimber_k53_reaching_by_bare_trees).prog [97]) (H := FT.hk) (ob := FT.ob) (M := 9000) (loose := FT.loose) (d := HandSHeadRun.topDef (OpenLaw.row PySem.Challenge.rw_felltimber_k53_reaching_by_bare_trees).prog 97) (kwd := []) FT.ob_eq
  (by kernel_rfl) (fun s => by kernel_rfl) FT.run (by kernel_rfl) (by kernel_rfl) (by kernel_rfl) (by rfl) (by first | assumption | decide +kernel) (by decide +kernel) ⟨rfl, rfl, rfl, rfl, rfl, by decide +kernel⟩ ?hw ?hc
 case hw => w_witness2
 case hc =>
  refine L2.walk_ofE (l := PySem.Challenge.rw_felltimber_k53_reaching_by_bare_trees) (n := 63) (k := 230) (x := "_law_script") (CX := L2.CX0) rfl (by decide) (by kernel_rfl) ⟨rfl, by decide, by decide⟩ ?F (fun _ _ _ _ z => z);intro w mg fa h Y G hmg0;obtain ⟨K, KX, c, cx⟩ := Y;have hmg : mg ("law" : PySem.Str) = some (.ref fa) := by
   have e : (HandSHeadRun.topDef (OpenLaw.row PySem.Challenge.rw_felltimber_k53_reaching_by_bare_trees).prog 97).name = ("law" : PySem.Str) := by kernel_rfl
   rw [<- e];exact hmg0
  obtain ⟨fd, hb, hF⟩ := FT.facts (P := (PySem.Challenge.rw_felltimber_k53_reaching_by_bare_trees).prog) (w := w) KX G hmg c cx;exact ⟨K, fd, FT.spLaw K, KX, hb, fun H a ns hl _ hS => ⟨a, ns, rfl, hS, hl, fun _ => rfl⟩, hF⟩
