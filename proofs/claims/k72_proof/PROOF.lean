import PyProof.Rows.All
import Wide.All
import OpenK.AllK
import Wide.FinOn
import KE.KStateDown
import KE.SortData
import HandS.ForMost
import HandS.More
import HandS.Walk
import HandS.Zip
import HandS.Style
import HandS.TupAny
import HandS.IsInst
import HandS.Wide
import HandS.Flow
import HandS.WordsExc
import HandS.Defaults
import HandS.Head0
import HandS.Head1
import HandS.Head2
import HandS.HeadEnd
import HandS.HeadHook1
import HandS.HeadHook2
import HandS.HeadNt
import KE.DataCmp
import HandS.SortKw
import PyProof.TupleOfSeq
import HandS.NoneIn
import HandS.ExcIs
import HandS.RevRange
import KE.GoesEnum
import KE.DataAny
import HandS.Conv
import HandS.SortInts
import HandS.FStr
import HandS.Strs
import HandS.TupSets
import HandS.DictComp
import HandS.ExcInit
import HandS.SetKeys
import HandS.SetTxt0
import HandS.SetBool
import HandS.SetFor
import KE.GoesEnumKw
import PyProof.Rows.CallKwBuiltin
import KE.DatumOrd
import HandS.ExcField
import HandS.HotCalls
import HandS.Replace
import HandS.TupLe
import KE.DataMinMax
import PyProof.StrBlock2
import HandS.WordsDict
import HandS.TupMul
import HandS.TryOnly
import PySem.Challenge.RW_felltimber_k72_whole_sorts_needed
set_option Elab.async false
set_option linter.all false
set_option maxRecDepth 100000
set_option maxHeartbeats 4000000
namespace FT
open PySem PySem.W PySem.Spec PyProof.Rows L2
theorem hunT {A:Around} {e:Env} {k:Nat} (hr:Room k (A.deeper e)):A.units+3+200 < cLine:=by
 have:=hr.un
 have h3:(A.deeper e).units=A.units+3:=rfl
 omega
theorem nmn {α:Type} {a:α}:¬ a ∈ ([]:List α):=List.not_mem_nil
theorem mcs {α:Type} {a:α} {l:List α}:a ∈ a::l:=List.mem_cons_self
theorem mcm {α:Type} (y:α) {a:α} {l:List α} (h:a ∈ l):a ∈ y::l:=List.mem_cons_of_mem y h
theorem mal {α:Type} {a:α} {l:List α} (k:List α) (h:a ∈ l):a ∈ l++k:=List.mem_append_left k h
theorem mar {α:Type} {a:α} {l:List α} (k:List α) (h:a ∈ l):a ∈ k++l:=List.mem_append_right k h
structure SB (ps:List Addr) (H H':Hp):Prop where
 keep:∀ b o,H b=some o->b ∉ ps->H' b=some o
 tups:∀ b xs,H b=some (.tup xs)->H' b=some (.tup xs)
 frzs:∀ b o u,H b=some (.frz o u)->H' b=some (.frz o u)
 dom:∀ b,H' b=none->H b=none
section
variable {K:PySem.W.Frag} {ps qs:List Addr} {H H' H1 H2:Hp} {a p:Addr} {xs:List V}
theorem SB.refl:SB ps H H:=⟨fun _ _ h _=>h,fun _ _ h=>h,fun _ _ _ h=>h,fun _ h=>h⟩
theorem SB.trans (a:SB ps H H1) (b:SB ps H1 H2):SB ps H H2 :=
 ⟨fun c o h n=>b.keep c o (a.keep c o h n) n,fun c x h=>b.tups c x (a.tups c x h),fun c o u h=>b.frzs c o u (a.frzs c o u h),fun c h=>a.dom c (b.dom c h)⟩
theorem SB.mono (h:SB ps H H') (hs:∀ b ∈ ps,b ∈ qs):SB qs H H':=⟨fun c o e n=>h.keep c o e fun z=>n (hs c z),h.tups,h.frzs,h.dom⟩
theorem SB.nil (h:SB [] H H'):SB ps H H':=h.mono fun _ z=>absurd z (nmn)
theorem SB.new (h:H p=none) (o:HO):SB ps H (upd H p o):=by
 refine ⟨fun b u e _=>?_,fun b u e=>?_,fun b v u e=>?_,fun b e=>?_⟩
 ·rw [upd_ne (ne_of_none e h)]; exact e
 ·rw [upd_ne (ne_of_none e h)]; exact e
 ·rw [upd_ne (ne_of_none e h)]; exact e
 ·by_cases q:b=p
  ·subst q; exact h
  ·rw [upd_ne q] at e; exact e
theorem SB.set (h:H p=some (.lst xs)) (hp:p ∈ ps) (o:HO):SB ps H (upd H p o):=by
 refine ⟨fun b u e n=>?_,fun b u e=>?_,fun b v u e=>?_,fun b e=>?_⟩
 ·rw [upd_ne (fun (z:b=p)=>n (by rw [z]; exact hp))]; exact e
 ·rw [upd_ne (fun (z:b=p)=>by subst z; rw [h] at e; cases e)]; exact e
 ·rw [upd_ne (fun (z:b=p)=>by subst z; rw [h] at e; cases e)]; exact e
 ·by_cases q:b=p
  ·subst q; rw [upd_same] at e; cases e
  ·rw [upd_ne q] at e; exact e
theorem SB.drop (h:SB (p::ps) H H') (n:H p=none):SB ps H H':=by
 refine ⟨fun b o e m=>h.keep b o e fun z=>?_,h.tups,h.frzs,h.dom⟩
 rcases List.mem_cons.mp z with z | z
 ·subst z; rw [n] at e; cases e
 ·exact m z
theorem SB.sqT (e:SB ps H H') (h:SqT K H a xs):SqT K H' a xs:=by
 rcases h with (h | ⟨o,h⟩) | h
 ·exact .inl (.inl (e.tups _ _ h))
 ·exact .inl (.inr ⟨o,e.frzs _ _ _ h⟩)
 ·exact .inr h
theorem SB.sqL (e:SB ps H H') (n:a ∉ ps) (h:SqL K H a xs):SqL K H' a xs:=by
 rcases h with (h | ⟨o,h⟩) | h
 ·exact .inl (.inl (e.keep _ _ h n))
 ·exact .inl (.inr ⟨o,e.frzs _ _ _ h⟩)
 ·exact .inr h
theorem SB.ne (e:SB ps H H') {b:Addr} {o:HO} (h:H b=some o) {q:Addr} (n:H' q=none):b ≠ q:=fun z=>by
 subst z; rw [e.dom b n] at h; cases h
end
inductive Lad where
 | nil
 | cons (e:Lad) (m:Int) (r:Lad)
 deriving DecidableEq
namespace Lad
def encs:Lad->List PyData
 | .nil=>[]
 | .cons e m r=>.tuple [.tuple e.encs,.int m]::r.encs
def enc (l:Lad):PyData:=.tuple l.encs
def parts:Lad->Nat
 | .nil=>0
 | .cons e _ r=>1+e.parts+r.parts
def deep:Lad->Nat
 | .nil=>0
 | .cons e _ r=>max (1+e.deep) r.deep
def len:Lad->Nat
 | .nil=>0
 | .cons _ _ r=>1+r.len
theorem encs_length:∀ l:Lad,l.encs.length=l.len
 | .nil=>rfl
 | .cons e m r=>by show r.encs.length+1=1+r.len; rw [encs_length r,Nat.add_comm]
theorem len_parts:∀ l:Lad,l.len<=l.parts
 | .nil=>Nat.le_refl _
 | .cons e m r=>by have:=len_parts r; show 1+r.len<=1+e.parts+r.parts; omega
theorem alikes:∀ l k:Lad,alikeAll l.encs k.encs=true
 | .nil,_=>by simp [encs,alikeAll]
 | .cons e m r,.nil=>by simp [encs,alikeAll]
 | .cons e m r,.cons e' m' r'=>by
  have h1:=alikes e e'
  have h2:=alikes r r'
  simp [encs,alikeAll,alike,h1,h2]
theorem alike_enc (l k:Lad):alike l.enc k.enc=true:=by
 show alike (.tuple l.encs) (.tuple k.encs)=true
 rw [alike]; exact alikes l k
theorem encs_depth:∀ l:Lad,PyData.depthAll l.encs<=2*l.deep
 | .nil=>by simp [encs,PyData.depthAll,deep]
 | .cons e m r=>by
  have h1:=encs_depth e
  have h2:=encs_depth r
  simp only [encs,PyData.depthAll,PyData.depth,deep]
  omega
theorem enc_depth (l:Lad):l.enc.depth<=2*l.deep+1:=by
 have:=encs_depth l
 simp only [enc,PyData.depth]
 omega
theorem enc_ne (l:Lad):l.enc ≠ .none:=fun h=>nomatch h
end Lad
def rLtD (K:PySem.W.Frag):R2:=fun x y H Q=>∃ d e,Dp K H x d/\Dp K H y e/\alike d e=true/\d ≠ .none/\d.depth<=100/\Q (.bl (dataLt d e)) H
section
variable {X:Cx}
theorem zb6 (hu:X.A.units+100 < cLine):OpR X (compareOp .Lt) (rLtD X.K):=by
 intro pins s σ H x y v u Q I rx ry h
 obtain ⟨d,e,hd,he,al,hn,hdp,q⟩:=h
 obtain ⟨as,r1⟩:=Dp.reads I d x v hd rx
 obtain ⟨bs,r2⟩:=Dp.reads I e y u he ry
 exact rcLt_alike d e X.A s v u as bs r1 r2 al hn (by have:=Nat.min_le_left d.depth e.depth; omega) X.prog X.w X.xe _ ⟨.bl _,H,I,rfl,q⟩
end
mutual
def z03:PyData->Bool
 | .list _=>false
 | .dict _=>false
 | .tuple ds=>z06 ds
 | _=>true
def z06:List PyData->Bool
 | []=>true
 | d::ds=>z03 d&&z06 ds
end
section
variable {K:PySem.W.Frag} {ps:List Addr} {H H':Hp}
mutual
theorem z0e (e:SB ps H H'):∀ (d:PyData) (v:V),z03 d=true->Dp K H v d->Dp K H' v d
 | .none,_,_,h=>by cases h; exact .non
 | .bool b,_,_,h=>by cases h; exact .bl b
 | .int i,_,_,h=>by cases h; exact .int i
 | .str x,_,_,h=>by cases h; exact .str x
 | .list ds,_,n,_=>by simp [z03] at n
 | .dict ds,_,n,_=>by simp [z03] at n
 | .tuple ds,_,n,h=>by
  cases h with
  | tup hs ha=>exact .tup (e.sqT hs) (z23 e ds _ (by simpa [z03] using n) ha)
theorem z23 (e:SB ps H H'):∀ (ds:List PyData) (vs:List V),z06 ds=true->DpAll K H vs ds->DpAll K H' vs ds
 | [],_,_,h=>by cases h; exact .nil
 | d::ds,_,n,h=>by
  cases h with
  | cons h1 h2 =>
   simp [z06] at n
   exact .cons (z0e e d _ n.1 h1) (z23 e ds _ n.2 h2)
end
end
theorem Lad.noLists_encs:∀ l:Lad,z06 l.encs=true
 | .nil=>by simp [Lad.encs,z06]
 | .cons e m r=>by simp [Lad.encs,z06,z03,Lad.noLists_encs e,Lad.noLists_encs r]
theorem Lad.noList_enc (l:Lad):z03 l.enc=true:=by simp [Lad.enc,z03,Lad.noLists_encs l]
/-- at v stands the ladder l -/
def LA (K:PySem.W.Frag) (H:Hp) (v:V) (l:Lad):Prop:=Dp K H v l.enc
section
variable {K:PySem.W.Frag} {ps:List Addr} {H H':Hp} {v:V} {l:Lad}
theorem LA.sb (h:LA K H v l) (e:SB ps H H'):LA K H' v l:=z0e e _ _ l.noList_enc h
theorem LA.tup (h:LA K H v l):∃ a xs,v=.ref a/\SqT K H a xs/\DpAll K H xs l.encs:=by
 have h':Dp K H v (.tuple l.encs):=h
 cases h' with
 | tup hs ha=>exact ⟨_,_,rfl,hs,ha⟩
theorem DpAll.length:∀ {vs:List V} {ds:List PyData},DpAll K H vs ds->vs.length=ds.length
 | _,_,.nil=>rfl
 | _,_,.cons _ t=>by rw [List.length_cons,List.length_cons,DpAll.length t]
theorem DpAll.get:∀ {vs:List V} {ds:List PyData} {i:Nat} {v:V},DpAll K H vs ds->vs[i]?=some v->∃ d,ds[i]?=some d/\Dp K H v d
 | _,_,_,_,.nil,e=>by simp at e
 | _,_,0,_,.cons h t,e=>by simp at e; subst e; exact ⟨_,rfl,h⟩
 | _,_,i+1,v,.cons h t,e=>by
  obtain ⟨d,h1,h2⟩:=DpAll.get (i:=i) (v:=v) t (by simpa using e)
  exact ⟨d,by simpa using h1,h2⟩
end
structure BI (mg:Str->Option Value):Prop where
 len:mg "len"=none
 isinstance:mg "isinstance"=none
 int:mg "int"=none
 bool:mg "bool"=none
 str:mg "str"=none
 tuple:mg "tuple"=none
 list:mg "list"=none
 all:mg "all"=none
 zip:mg "zip"=none
 sum:mg "sum"=none
 max:mg "max"=none
 range:mg "range"=none
 enumerate:mg "enumerate"=none
 abs:mg "abs"=none
 sorted:mg "sorted"=none
 min:mg "min"=none
 reversed:mg "reversed"=none
 any:mg "any"=none
 set:mg "set"=none
 dict:mg "dict"=none
 repr:mg "repr"=none
structure Got (P:Program) (w:World) (K:PySem.W.Frag) (mg:Str->Option Value) (base:Heap) (x:Str) (ps:List Str) (k:Nat) (sp:Sp):Prop where
 ex:∃ (f:Addr) (fd:FuncData),FnOk P w K mg base CX0 k f fd ps sp/\PySem.W.keepIn K (.ref f)=true/\Binds K fd ps []/\mg x=some (.ref f)
section
variable {X:Cx} {x:Str} {ps:List Str} {k:Nat} {sp:Sp} {e:Expr} {es:List Expr} {t:TA} {p pos:Pos}
theorem z00 (G:Got X.prog X.w X.K X.mg X.base x ps k sp) (hr:Room k X.A) (hg:Gl X x) (ha:PA X (e::es) t) (hdb:(x == ("__debug__":Str))=false:=by decide) (he:starEach (e::es) X.env=(false,eval e X.env)::starEach es X.env:=by rfl) (hpl:(backTo pos (starEach es X.env)).any (·.1)=false:=by rfl) :
  PE X (.Call (.Name x p) (e::es) [] pos) (tCall sp [] E0 t):=by
 obtain ⟨f,fd,h1,h2,h3,h4⟩:=G.ex
 exact pe_call h1 hr hg h4 h2 h3 .nil pass0 ha hdb he hpl
end
def zek (K:PySem.W.Frag):List V->Hp->VK->Prop:=fun xs H Q=>∃ (x:V) (T n:String) (b:Bool),xs=[x,.ty T]/\TyX K H x (.type n)/\kitB n T=some b/\Q (.bl b) H
section
variable {X:Cx}
theorem zba:CallR X (.builtin "isinstance") (zek X.K):=by
 intro pins s σ H xs us Q I r h
 obtain ⟨x,T,n,b,rfl,ty,e,q⟩:=h
 exact call_isi pins s σ H _ us Q I r ⟨x,.ty T,.type n,.type T,b,rfl,.ty T,ty,kit_ty e,q⟩
theorem zdy {T:Str} {T':String} {pos:Pos} (hg:Gl X T) (hm:X.mg T=none) (hv:bootBuiltins T=some (.type T')) (hn:T ≠ "__name__":=by decide) (hd:(T == ("__debug__":Str))=false:=by decide):PE X (.Name T pos) (tC (.ty T')):=pe_bltn hg hm hv rfl hn hd
theorem z0z {e:Expr} {te:TE} {T:Str} {T':String} {p p2 pos:Pos} (B:BI X.mg) (he:PE X e te) (hm:X.mg T=none) (hv:bootBuiltins T=some (.type T')) (hg:Gl X "isinstance":=by rfl) (hg2:Gl X T:=by rfl) (hn:T ≠ "__name__":=by decide) (hd:(T == ("__debug__":Str))=false:=by decide)
  (hs:starEach [e,.Name T p2] X.env=(false,eval e X.env)::starEach [.Name T p2] X.env:=by rfl) (hpl:(backTo pos (starEach [.Name T p2] X.env)).any (·.1)=false:=by rfl) :
  PE X (.Call (.Name "isinstance" p) [e,.Name T p2] [] pos) (tCB (zek X.K) (tCons te (tCons (tC (.ty T')) tNil))) :=
 pe_callB zba hg B.isinstance boot_isinstance (pa_cons he (pa_cons (zdy hg2 hm hv hn hd) pa_nil) hs) (by decide) (by decide) hs hpl
end
mutual
inductive Th (K:PySem.W.Frag) (ps:List Addr) (H:Hp):V->PyData->Prop
 | int (i:Int):Th K ps H (.int i) (.int i)
 | tup {a:Addr} {xs:List V} {ds:List PyData}:SqT K H a xs->ThAll K ps H xs ds->Th K ps H (.ref a) (.tuple ds)
 | oth {v:V} {n:String}:TyX K H v (.type n)->kitB n "tuple"=some false->(kitB n "int"=some false\/n="bool")->(∀ a,v=.ref a->a ∉ ps)->Th K ps H v .none
inductive ThAll (K:PySem.W.Frag) (ps:List Addr) (H:Hp):List V->List PyData->Prop
 | nil:ThAll K ps H [] []
 | cons {v:V} {vs:List V} {d:PyData} {ds:List PyData}:Th K ps H v d->ThAll K ps H vs ds->ThAll K ps H (v::vs) (d::ds)
end
def z0q:PyData->Bool
 | .int i=>decide (1<=i)
 | _=>false
section
variable {K:PySem.W.Frag} {ps:List Addr} {H H':Hp}
theorem z32 {a:Addr} {xs:List V} (h:SqT K H a xs):TyX K H (.ref a) (.type "tuple"):=by
 rcases h with (h | ⟨o,h⟩) | ⟨o,its,n,h,c,_⟩
 ·exact .base (.tup h)
 ·exact .fTuple h
 ·exact .kTuple h c
theorem Th.ty {v:V} {d:PyData} (h:Th K ps H v d):∃ n b,TyX K H v (.type n)/\kitB n "tuple"=some b/\(b=true->∃ a xs ds,v=.ref a/\d=.tuple ds/\SqT K H a xs/\ThAll K ps H xs ds)/\(b=false->(∃ i,d=.int i)\/d=.none):=by
 cases h with
 | int i=>exact ⟨"int",false,.base (.int i),by decide +kernel,fun z=>(nomatch z),fun _=>.inl ⟨i,rfl⟩⟩
 | tup hs ha=>exact ⟨"tuple",true,(z32 hs),by decide +kernel,fun _=>⟨_,_,_,rfl,rfl,hs,ha⟩,fun z=>(nomatch z)⟩
 | oth ty k1 k2 _=>exact ⟨_,false,ty,k1,fun z=>(nomatch z),fun _=>.inr rfl⟩
theorem Th.whole {v:V} {d:PyData} (h:Th K ps H v d):∃ n b1 b2,TyX K H v (.type n)/\kitB n "int"=some b1/\(b1=true->kitB n "bool"=some b2)/\((b1&&!b2)=true->∃ i,v=.int i/\d=.int i)/\((b1&&!b2)=false->z0q d=false):=by
 cases h with
 | int i=>exact ⟨"int",true,false,.base (.int i),by decide +kernel,fun _=>by decide +kernel,fun _=>⟨i,rfl,rfl⟩,fun z=>(nomatch z)⟩
 | tup hs ha=>exact ⟨"tuple",false,false,(z32 hs),by decide +kernel,fun z=>(nomatch z),fun z=>(nomatch z),fun _=>rfl⟩
 | @oth v n ty k1 k2 _ =>
  rcases k2 with k2 | k2
  ·exact ⟨n,false,false,ty,k2,fun z=>(nomatch z),fun z=>(nomatch z),fun _=>rfl⟩
  ·subst k2
   exact ⟨"bool",true,true,ty,by decide +kernel,fun _=>by decide +kernel,fun z=>(nomatch z),fun _=>rfl⟩
theorem ThAll.length:∀ {vs:List V} {ds:List PyData},ThAll K ps H vs ds->vs.length=ds.length
 | _,_,.nil=>rfl
 | _,_,.cons _ t=>by rw [List.length_cons,List.length_cons,ThAll.length t]
theorem ThAll.get:∀ {vs:List V} {ds:List PyData} {i:Nat} {v:V},ThAll K ps H vs ds->vs[i]?=some v->∃ d,ds[i]?=some d/\Th K ps H v d
 | _,_,_,_,.nil,e=>by simp at e
 | _,_,0,_,.cons h t,e=>by simp at e; subst e; exact ⟨_,rfl,h⟩
 | _,_,i+1,v,.cons h t,e=>by
  obtain ⟨d,h1,h2⟩:=ThAll.get (i:=i) (v:=v) t (by simpa using e)
  exact ⟨d,by simpa using h1,h2⟩
theorem z2u {v:V} {n:String} (e:SB ps H H') (hn:∀ a,v=.ref a->a ∉ ps) (h:TyX K H v (.type n)):TyX K H' v (.type n):=by
 cases h with
 | base h =>
  cases h with
  | non=>exact .base .non
  | bl x=>exact .base (.bl x)
  | int i=>exact .base (.int i)
  | str x=>exact .base (.str x)
  | flt x=>exact .base (.flt x)
  | lst h=>exact .base (.lst (e.keep _ _ h (hn _ rfl)))
  | frz h=>exact .base (.frz (e.frzs _ _ _ h))
  | tup h=>exact .base (.tup (e.tups _ _ h))
  | dK h=>exact .base (.dK (e.keep _ _ h (hn _ rfl)))
  | dT h=>exact .base (.dT (e.keep _ _ h (hn _ rfl)))
 | byt b=>exact .byt b
 | set h=>exact .set (e.keep _ _ h (hn _ rfl))
 | kList h c=>exact .kList h c
 | kTuple h c=>exact .kTuple h c
 | kDict h c=>exact .kDict h c
 | fTuple h=>exact .fTuple (e.frzs _ _ _ h)
 | fDict h=>exact .fDict (e.frzs _ _ _ h)
end
/-- the values vs bear the data bs -/
inductive Bears (K:PySem.W.Frag) (H:Hp) {β:Type} (enc:β->PyData):List V->List β->Prop
 | nil:Bears K H enc [] []
 | cons {v:V} {vs:List V} {b:β} {bs:List β}:Dp K H v (enc b)->Bears K H enc vs bs->Bears K H enc (v::vs) (b::bs)
section
variable {K:PySem.W.Frag} {H H':Hp} {β:Type} {enc:β->PyData} {ps:List Addr}
theorem Bears.length:∀ {vs:List V} {bs:List β},Bears K H enc vs bs->vs.length=bs.length
 | _,_,.nil=>rfl
 | _,_,.cons _ t=>by rw [List.length_cons,List.length_cons,Bears.length t]
theorem Bears.dp:∀ {vs:List V} {bs:List β},Bears K H enc vs bs->DpAll K H vs (bs.map enc)
 | _,_,.nil=>.nil
 | _,_,.cons h t=>.cons h (Bears.dp t)
theorem Bears.of:∀ {vs:List V} {bs:List β},DpAll K H vs (bs.map enc)->Bears K H enc vs bs
 | [],[],_=>.nil
 | _::_,[],h=>by cases h
 | [],_::_,h=>by cases h
 | v::vs,b::bs,h=>by
  cases h with
  | cons h1 h2=>exact .cons h1 (Bears.of h2)
theorem Bears.get:∀ {vs:List V} {bs:List β} {i:Nat} {v:V},Bears K H enc vs bs->vs[i]?=some v->∃ b,bs[i]?=some b/\Dp K H v (enc b)
 | _,_,_,_,.nil,e=>by simp at e
 | _,_,0,_,.cons h t,e=>by simp at e; subst e; exact ⟨_,rfl,h⟩
 | _,_,i+1,v,.cons h t,e=>by
  obtain ⟨d,h1,h2⟩:=Bears.get (i:=i) (v:=v) t (by simpa using e)
  exact ⟨d,by simpa using h1,h2⟩
theorem Bears.append:∀ {xs ys:List V} {bs cs:List β},Bears K H enc xs bs->Bears K H enc ys cs->Bears K H enc (xs++ys) (bs++cs)
 | _,_,_,_,.nil,h=>h
 | _,_,_,_,.cons a b,h=>.cons a (Bears.append b h)
theorem Bears.reverse:∀ {xs:List V} {bs:List β},Bears K H enc xs bs->Bears K H enc xs.reverse bs.reverse
 | _,_,.nil=>.nil
 | _,_,.cons a b=>by
  rw [List.reverse_cons,List.reverse_cons]
  exact Bears.append (Bears.reverse b) (.cons a .nil)
theorem Bears.sb (e:SB ps H H') (hn:∀ b,z03 (enc b)=true):∀ {xs:List V} {bs:List β},Bears K H enc xs bs->Bears K H' enc xs bs
 | _,_,.nil=>.nil
 | _,_,.cons a b=>.cons (z0e e _ _ (hn _) a) (Bears.sb e hn b)
theorem Bears.take (n:Nat):∀ {xs:List V} {bs:List β},Bears K H enc xs bs->Bears K H enc (xs.take n) (bs.take n):=by
 induction n with
 | zero=>intro xs bs h; rw [List.take_zero,List.take_zero]; exact .nil
 | succ n ih =>
  intro xs bs h
  cases h with
  | nil=>exact .nil
  | cons a b=>exact .cons a (ih b)
theorem Bears.drop (n:Nat):∀ {xs:List V} {bs:List β},Bears K H enc xs bs->Bears K H enc (xs.drop n) (bs.drop n):=by
 induction n with
 | zero=>intro xs bs h; exact h
 | succ n ih =>
  intro xs bs h
  cases h with
  | nil=>exact .nil
  | cons a b=>exact ih b
end
section
variable {X:Cx} {pins:List (Addr × Obj)} {σ:L2.St} {H:Hp} {s:Shared} {β:Type} {enc:β->PyData}
theorem z5c (I:Inv X pins σ H s):∀ {vs:List V} {us:List Value} {bs:List β},Bears X.K H enc vs bs->Vals vs us ->
  EachIs (fun u b=>∃ v,RelV v u/\Dp X.K H v (enc b)) us bs/\EachIs (fun u b=>∃ as,Reads s.heap u (enc b) as) us bs
 | _,_,_,.nil,.nil=>⟨.nil,.nil⟩
 | _,_,_,.cons h t,.cons r u=>by
  obtain ⟨h1,h2⟩:=z5c I t u
  exact ⟨.cons ⟨_,r,h⟩ h1,.cons (Dp.reads I _ _ _ h r) h2⟩
theorem z7g {K:PySem.W.Frag}:∀ {us:List Value} {bs:List β},EachIs (fun u b=>∃ v,RelV v u/\Dp K H v (enc b)) us bs->∃ vs,Vals vs us/\Bears K H enc vs bs
 | _,_,.nil=>⟨[],.nil,.nil⟩
 | _,_,.cons ⟨v,r,h⟩ t=>by
  obtain ⟨vs,h1,h2⟩:=z7g t
  exact ⟨v::vs,.cons r h1,.cons h h2⟩
end
section
variable {P:Program} {w:World} {K:PySem.W.Frag} {mg:Str->Option Value} {base:Heap} {f:Addr} {fd:FuncData}
def z5q (K:PySem.W.Frag):Sp:=fun vs H Q _=>∃ (v:V) (n:String) (b1 b2:Bool),vs=[v]/\TyX K H v (.type n)/\kitB n "int"=some b1/\(b1=true->kitB n "bool"=some b2)/\Q (.bl (b1&&!b2)) H
def z6z (K:PySem.W.Frag) (ps:List Addr):Sp:=fun vs H Q _=>∃ (v:V) (d:PyData),vs=[v]/\Th K ps H v d/\Q (.bl (z0q d)) H
end
def ltsD:List PyData->List Bool
 | []=>[]
 | [_]=>[]
 | a::b::r=>dataLt a b::ltsD (b::r)
def z39 (ds:List PyData):Bool:=(ltsD ds).all id
theorem z2t:∀ ds:List PyData,(ltsD ds).length=ds.length-1
 | []=>rfl
 | [_]=>rfl
 | a::b::r=>by
  have h:=z2t (b::r)
  show (ltsD (b::r)).length+1=_
  rw [h]; simp
theorem z8o:∀ (ds:List PyData) (i:Nat) (d e:PyData),ds[i]?=some d->ds[i+1]?=some e->(ltsD ds)[i]?=some (dataLt d e)
 | [],_,_,_,h,_=>by simp at h
 | [_],_,_,_,_,h=>by simp at h
 | a::b::r,0,d,e,h1,h2=>by simp at h1 h2; subst h1 h2; rfl
 | a::b::r,i+1,d,e,h1,h2=>by
  have:=z8o (b::r) i d e (by simpa using h1) (by simpa using h2)
  simpa [ltsD] using this
theorem cut1 (xs:List V):cutV xs (some 1) none=xs.drop 1:=by
 unfold cutV
 have h1:HT.sIx xs.length 0 (some 1)=min 1 xs.length:=HT.sIx_nat xs.length 0 1
 have h2:HT.sIx xs.length xs.length none=xs.length:=rfl
 rw [h1,h2]
 cases xs with
 | nil=>rfl
 | cons x r =>
  have:min 1 (x::r).length=1:=by simp
  rw [this]
  simp
section
variable {P:Program} {w:World} {K:PySem.W.Frag} {mg:Str->Option Value} {base:Heap} {f:Addr} {fd:FuncData}
def OkD (d:PyData):Prop:=z03 d=true/\d ≠ .none/\d.depth<=100
def z6b (K:PySem.W.Frag):Sp:=fun vs H Q _=>∃ (a:Addr) (xs:List V) (ds:List PyData),vs=[.ref a]/\SqL K H a xs/\DpAll K H xs ds/\(∀ d ∈ ds,OkD d)/\AllAlike ds/\xs.length<=1000 /\
 ∀ H',SB [] H H'->Q (.bl (z39 ds)) H'
abbrev z8h:List Str:=["things","low","high"]
end
def Lad.num (i:Int):Lad:=if i=0 then .nil else .cons .nil i .nil
def Lad.lt (l k:Lad):Bool:=dataLt l.enc k.enc
section
variable {P:Program} {w:World} {K:PySem.W.Frag} {mg:Str->Option Value} {base:Heap} {f:Addr} {fd:FuncData}
theorem z18 {H:Hp} {p:Addr} (h:SqT K H p []):LA K H (.ref p) .nil:=Dp.tup h .nil
theorem zay {H:Hp} {p q:Addr} {u:V} {e:Lad} {m:Int} (h:SqT K H p [.ref q]) (h2:SqT K H q [u,.int m]) (h3:LA K H u e):LA K H (.ref p) (.cons e m .nil) :=
 Dp.tup h (.cons (.tup h2 (.cons h3 (.cons (.int m) .nil))) .nil)
def z2c (K:PySem.W.Frag):Sp:=fun vs H Q _=>∃ i:Int,vs=[.int i]/\∀ v H',SB [] H H'->LA K H' v (Lad.num i)->Q v H'
def z1t (K:PySem.W.Frag):Sp:=fun vs H Q _=>∃ (v u:V) (l k:Lad),vs=[v,u]/\LA K H v l/\LA K H u k/\l.deep<=45/\Q (.bl (l.lt k)) H
end
namespace Lad
def ps:Lad->List (Lad × Int)
 | .nil=>[]
 | .cons e m r=>(e,m)::r.ps
def ofPs:List (Lad × Int)->Lad
 | []=>.nil
 | (e,m)::r=>.cons e m (ofPs r)
def pEnc (p:Lad × Int):PyData:=.tuple [p.1.enc,.int p.2]
theorem ofPs_ps:∀ l:Lad,ofPs l.ps=l
 | .nil=>rfl
 | .cons e m r=>by show cons e m (ofPs r.ps)=_; rw [ofPs_ps r]
theorem ps_ofPs:∀ l:List (Lad × Int),(ofPs l).ps=l
 | []=>rfl
 | (e,m)::r=>by show (e,m)::(ofPs r).ps=_; rw [ps_ofPs r]
theorem encs_ps:∀ l:Lad,l.encs=l.ps.map pEnc
 | .nil=>rfl
 | .cons e m r=>by show _::r.encs=pEnc (e,m)::r.ps.map pEnc; rw [encs_ps r]; rfl
theorem ps_length (l:Lad):l.ps.length=l.len:=by rw [<- encs_length,encs_ps,List.length_map]
theorem mem_parts:∀ (l:Lad) (p:Lad × Int),p ∈ l.ps->p.1.parts < l.parts
 | .nil,_,h=>by simp [ps] at h
 | .cons e m r,p,h=>by
  rcases List.mem_cons.mp h with h | h
  ·subst h; show e.parts < 1+e.parts+r.parts; omega
  ·have:=mem_parts r p h; show p.1.parts < 1+e.parts+r.parts; omega
theorem mem_deep:∀ (l:Lad) (p:Lad × Int),p ∈ l.ps->p.1.deep < l.deep
 | .nil,_,h=>by simp [ps] at h
 | .cons e m r,p,h=>by
  rcases List.mem_cons.mp h with h | h
  ·subst h; show e.deep < max (1+e.deep) r.deep; omega
  ·have:=mem_deep r p h; show p.1.deep < max (1+e.deep) r.deep; omega
end Lad
section
variable {P:Program} {w:World} {K:PySem.W.Frag} {mg:Str->Option Value} {base:Heap} {f:Addr} {fd:FuncData}
theorem z10 {H:Hp} {v:V} {p:Lad × Int} (h:Dp K H v (Lad.pEnc p)):∃ a u,v=.ref a/\SqT K H a [u,.int p.2]/\LA K H u p.1:=by
 have h':Dp K H v (.tuple [p.1.enc,.int p.2]):=h
 cases h' with
 | tup hs ha =>
  cases ha with
  | cons a1 a2 =>
   cases a2 with
   | cons b1 b2 =>
    cases b2
    cases b1
    exact ⟨_,_,rfl,hs,a1⟩
end
def exp0:PyData->PyData
 | .tuple (e::_)=>e
 | _=>.none
mutual
def ladD:PyData->Bool
 | .tuple ds=>zf1 ds&&z39 (ds.map exp0).reverse
 | _=>false
def zf1:List PyData->Bool
 | []=>true
 | d::ds=>ladP d&&zf1 ds
def ladP:PyData->Bool
 | .tuple ds=>zj4 ds
 | _=>false
def zj4:List PyData->Bool
 | []=>false
 | e::r=>ladD e&&z0u r
def z0u:List PyData->Bool
 | []=>false
 | m::r=>z0q m&&r.isEmpty
end
theorem z4r {ds:List PyData} {i:Nat} {d:PyData} (h:ds[i]?=some d):d.depth<=PyData.depthAll ds:=PyData.depth_le_depthAll ds d (List.mem_of_getElem? h)
section
variable {P:Program} {w:World} {K:PySem.W.Frag} {mg:Str->Option Value} {base:Heap} {f:Addr} {fd:FuncData} {ps:List Addr}
mutual
def wide:PyData->Nat
 | .tuple ds=>max ds.length (z0w ds)
 | _=>0
def z0w:List PyData->Nat
 | []=>0
 | d::ds=>max (wide d) (z0w ds)
end
theorem z6a:∀ (ds:List PyData) (d:PyData),d ∈ ds->wide d<=z0w ds
 | [],_,h=>by simp at h
 | e::ds,d,h=>by
  rw [z0w]
  rcases List.mem_cons.mp h with h | h
  ·subst h; omega
  ·have:=z6a ds d h; omega
theorem z3a (ds:List PyData):wide (.tuple ds)=max ds.length (z0w ds):=by rw [wide]
end
section
variable {K:PySem.W.Frag} {H:Hp}
theorem DpAll.append:∀ {xs ys:List V} {ds es:List PyData},DpAll K H xs ds->DpAll K H ys es->DpAll K H (xs++ys) (ds++es)
 | _,_,_,_,.nil,h=>h
 | _,_,_,_,.cons a b,h=>.cons a (DpAll.append b h)
theorem DpAll.reverse:∀ {xs:List V} {ds:List PyData},DpAll K H xs ds->DpAll K H xs.reverse ds.reverse
 | _,_,.nil=>.nil
 | _,_,.cons a b=>by
  rw [List.reverse_cons,List.reverse_cons]
  exact DpAll.append (DpAll.reverse b) (.cons a .nil)
theorem z2b:∀ l:List (Lad × Int),z06 (l.map fun p=>p.1.enc)=true
 | []=>by simp [z06]
 | p::l=>by simp [z06,z2b l,Lad.noList_enc]
end
/-- a purse -/
def Pu (H:Hp) (p:Addr):Prop:=∃ x y:Int,H p=some (.lst [.int x,.int y])/\0<=x/\0<=y/\y < 2147483629
section
variable {P:Program} {w:World} {K:PySem.W.Frag} {mg:Str->Option Value} {base:Heap} {f:Addr} {fd:FuncData}
def spAt (K:PySem.W.Frag):Sp:=fun vs H Q _=>∃ (a:Addr) (ns:List Int) (k:Nat),vs=[.ref a,.int (k:Int)]/\SqL K H a (ns.map V.int)/\∀ i:Int,Q (.int i) H
def z7d:Sp:=fun vs H Q _=>∃ c s:Int,vs=[.int c,.int s]/\0<=s/\s<=1000/\∀ p H',SB [] H H'->H p=none->Pu H' p->Q (.ref p) H'
abbrev zgk:List Str:=["_law_cell","_law_salt","_law_digits"]
def z13:Sp:=fun vs H Q _=>∃ (p:Addr) (m:Int),vs=[.ref p,.int m]/\Pu H p/\1<=m/\m < 2 ^ 100/\∀ r H',0<=r->r < m->SB [p] H H'->Pu H' p->Q (.int r) H'
theorem ix0 {x y:V}:atI [x,y] 0=some x:=rfl
theorem ix1 {x y:V}:atI [x,y] 1=some y:=rfl
end
mutual
def z6w:PyData->Bool
 | .int _=>true
 | .tuple ds=>z2y ds
 | _=>false
def z2y:List PyData->Bool
 | []=>true
 | d::ds=>z6w d&&z2y ds
end
theorem Lad.plains:∀ l:Lad,z2y l.encs=true
 | .nil=>by simp [Lad.encs,z2y]
 | .cons e m r=>by simp [Lad.encs,z2y,z6w,Lad.plains e,Lad.plains r]
theorem Lad.plain (l:Lad):z6w l.enc=true:=by rw [Lad.enc,z6w]; exact l.plains
theorem ib (m m':Int):(m == m')=decide (m=m'):=by by_cases h:m=m' <;> simp [h]
theorem Lad.eqvs:∀ l k:Lad,PyData.eqvAll l.encs k.encs=decide (l=k)
 | .nil,.nil=>by simp [encs,PyData.eqvAll]
 | .nil,.cons _ _ _=>by simp [encs,PyData.eqvAll]
 | .cons _ _ _,.nil=>by simp [encs,PyData.eqvAll]
 | .cons e m r,.cons e' m' r'=>by
  have h1:=Lad.eqvs e e'
  have h2:=Lad.eqvs r r'
  simp [encs,PyData.eqvAll,PyData.eqv,h1,h2,Bool.and_assoc,ib]
theorem Lad.eqv_enc (l k:Lad):PyData.eqv l.enc k.enc=decide (l=k):=by
 rw [Lad.enc,Lad.enc,PyData.eqv]; exact Lad.eqvs l k
theorem Lad.lt_nil_nil:Lad.lt .nil .nil=false:=by decide +kernel
theorem Lad.lt_nil_cons (e:Lad) (m:Int) (r:Lad):Lad.lt .nil (.cons e m r)=true:=by
 unfold Lad.lt Lad.enc
 rw [dataLt_tuple,Lad.encs,Lad.encs,toks_all_cons,show keyToksAll []=[.inl 0] by simp [keyToksAll],lex_atom (by simp),lex_one]
 decide +kernel
theorem Lad.lt_cons_nil (e:Lad) (m:Int) (r:Lad):Lad.lt (.cons e m r) .nil=false:=by
 unfold Lad.lt Lad.enc
 rw [dataLt_tuple,Lad.encs,Lad.encs,toks_all_cons,show keyToksAll []=[.inl 0] by simp [keyToksAll],lex_atom (by simp),lex_one]
 decide +kernel
theorem Lad.lt_cons (e e':Lad) (m m':Int) (r r':Lad):Lad.lt (.cons e m r) (.cons e' m' r')=if e=e' then (if m=m' then r.lt r' else decide (m < m')) else e.lt e':=by
 have al:alike (.tuple [e.enc,.int m]) (.tuple [e'.enc,.int m'])=true:=by simp [alike,alikeAll,e.alike_enc e']
 have h1:Lad.lt (.cons e m r) (.cons e' m' r')=if PyData.eqv (.tuple [e.enc,.int m]) (.tuple [e'.enc,.int m'])=true then r.lt r' else dataLt (.tuple [e.enc,.int m]) (.tuple [e'.enc,.int m']):=by
  unfold Lad.lt
  rw [show (Lad.cons e m r).enc=.tuple (.tuple [e.enc,.int m]::r.encs) from rfl,show (Lad.cons e' m' r').enc=.tuple (.tuple [e'.enc,.int m']::r'.encs) from rfl,dataLt_tuple,dataLt_cons al]
  rw [show dataLt r.enc r'.enc=PyProof.Rows.lexLt itemOrd (keyToksAll r.encs) (keyToksAll r'.encs) from dataLt_tuple _ _]
 have h2:PyData.eqv (.tuple [e.enc,.int m]) (.tuple [e'.enc,.int m'])=(decide (e=e')&&decide (m=m')):=by
  simp [PyData.eqv,PyData.eqvAll,Lad.eqv_enc,ib]
 rw [h1,h2,dataLt_pair (e.alike_enc e') (by simp [alike]),Lad.eqv_enc]
 by_cases he:e=e'
 ·by_cases hm:m=m'
  ·simp [he,hm]
  ·simp [he,hm,PyData.eqv,dataLt_int]
 ·simp [he,Lad.lt]
namespace Lad
theorem lt_irrefl:∀ l:Lad,l.lt l=false
 | .nil=>lt_nil_nil
 | .cons e m r=>by rw [lt_cons,if_pos rfl,if_pos rfl]; exact lt_irrefl r
theorem lt_nil_r:∀ l:Lad,l.lt .nil=false
 | .nil=>lt_nil_nil
 | .cons e m r=>lt_cons_nil e m r
theorem lt_ne {l k:Lad} (h:l.lt k=true):l ≠ k:=fun z=>by subst z; rw [lt_irrefl] at h; cases h
theorem lt_tri:∀ l k:Lad,l ≠ k->l.lt k=false->k.lt l=true
 | .nil,.nil,h,_=>absurd rfl h
 | .nil,.cons e m r,_,h=>by rw [lt_nil_cons] at h; cases h
 | .cons e m r,.nil,_,_=>lt_nil_cons e m r
 | .cons e m r,.cons e' m' r',hne,h=>by
  rw [lt_cons] at h ⊢
  by_cases he:e=e'
  ·subst he
   rw [if_pos rfl] at h ⊢
   by_cases hm:m=m'
   ·subst hm
    rw [if_pos rfl] at h ⊢
    exact lt_tri r r' (fun z=>hne (by rw [z])) h
   ·rw [if_neg hm] at h
    rw [if_neg (fun z=>hm z.symm)]
    have:=of_decide_eq_false h
    exact decide_eq_true (by omega)
  ·rw [if_neg he] at h
   rw [if_neg (fun z=>he z.symm)]
   exact lt_tri e e' he h
theorem lt_trans:∀ l k j:Lad,l.lt k=true->k.lt j=true->l.lt j=true
 | _,_,.nil,_,h=>by rw [lt_nil_r] at h; cases h
 | _,.nil,.cons _ _ _,h,_=>by rw [lt_nil_r] at h; cases h
 | .nil,.cons _ _ _,.cons e m r,_,_=>lt_nil_cons e m r
 | .cons e m r,.cons e' m' r',.cons e'' m'' r'',h1,h2=>by
  rw [lt_cons] at h1 h2 ⊢
  by_cases he:e=e'
  ·subst he
   rw [if_pos rfl] at h1
   by_cases he2:e=e''
   ·subst he2
    rw [if_pos rfl] at h2 ⊢
    by_cases hm:m=m'
    ·subst hm
     rw [if_pos rfl] at h1
     by_cases hm2:m=m''
     ·subst hm2
      rw [if_pos rfl] at h2 ⊢
      exact lt_trans r r' r'' h1 h2
     ·rw [if_neg hm2] at h2 ⊢
      exact h2
    ·rw [if_neg hm] at h1
     have a1:=of_decide_eq_true h1
     by_cases hm2:m'=m''
     ·subst hm2
      rw [if_neg hm]
      exact h1
     ·rw [if_neg hm2] at h2
      have a2:=of_decide_eq_true h2
      rw [if_neg (by omega)]
      exact decide_eq_true (by omega)
   ·rw [if_neg he2] at h2 ⊢
    exact h2
  ·rw [if_neg he] at h1
   by_cases he2:e'=e''
   ·subst he2
    rw [if_neg he]
    exact h1
   ·rw [if_neg he2] at h2
    have h3:=lt_trans e e' e'' h1 h2
    rw [if_neg (lt_ne h3)]
    exact h3
theorem lt_asymm {l k:Lad} (h:l.lt k=true):k.lt l=false:=by
 cases e:k.lt l with
 | false=>rfl
 | true =>
  have:=lt_trans l k l h e
  rw [lt_irrefl] at this
  cases this
/-- a right ladder: numbers from 1 to below B,exponents falling,at each depth -/
def Ok (B:Int):Lad->Prop
 | .nil=>True
 | .cons e m r=>e.Ok B/\1<=m/\m < B/\r.Ok B/\∀ p ∈ r.ps,p.1.lt e=true
theorem Ok.mono {B C:Int} (h:B<=C):∀ {l:Lad},l.Ok B->l.Ok C
 | .nil,_=>trivial
 | .cons e m r,⟨h1,h2,h3,h4,h5⟩=>⟨Ok.mono h h1,h2,by omega,Ok.mono h h4,h5⟩
theorem ok_ps {B:Int}:∀ {ps:List (Lad × Int)},(ofPs ps).Ok B ↔ (∀ p ∈ ps,p.1.Ok B/\1<=p.2/\p.2 < B)/\ps.Pairwise (fun p q=>q.1.lt p.1=true)
 | []=>by simp [ofPs,Ok]
 | (e,m)::r=>by
  have ih:=ok_ps (B:=B) (ps:=r)
  show (e.Ok B/\1<=m/\m < B/\(ofPs r).Ok B/\∀ p ∈ (ofPs r).ps,p.1.lt e=true) ↔ _
  rw [ps_ofPs,List.pairwise_cons,ih]
  constructor
  ·rintro ⟨h1,h2,h3,⟨h4,h5⟩,h6⟩
   refine ⟨fun p hp=>?_,h6,h5⟩
   rcases List.mem_cons.mp hp with hp | hp
   ·subst hp; exact ⟨h1,h2,h3⟩
   ·exact h4 p hp
  ·rintro ⟨h1,h2,h3⟩
   have h4:=h1 (e,m) (mcs ..)
   exact ⟨h4.1,h4.2.1,h4.2.2,⟨fun p hp=>h1 p (mcm _ hp),h3⟩,h2⟩
theorem ok_iff {B:Int} {l:Lad}:l.Ok B ↔ (∀ p ∈ l.ps,p.1.Ok B/\1<=p.2/\p.2 < B)/\l.ps.Pairwise (fun p q=>q.1.lt p.1=true):=by
 have:=ok_ps (B:=B) (ps:=l.ps)
 rw [ofPs_ps] at this
 exact this
end Lad
theorem zgf (ns:List Int) (lo hi:Option Int):∃ ms:List Int,cutV (ns.map V.int) lo hi=ms.map V.int/\ms.length<=ns.length:=by
 refine ⟨(ns.drop (HT.sIx (ns.map V.int).length 0 lo)).take (HT.sIx (ns.map V.int).length (ns.map V.int).length hi-HT.sIx (ns.map V.int).length 0 lo),?_,?_⟩
 ·unfold cutV
  rw [List.map_take,List.map_drop]
 ·rw [List.length_take,List.length_drop]; omega
theorem Pu.sb {H H':Hp} {p:Addr} (h:Pu H p) (e:SB [] H H'):Pu H' p:=by
 obtain ⟨x,y,h1,h2⟩:=h
 exact ⟨x,y,e.keep _ _ h1 nmn,h2⟩
section
variable {P:Program} {w:World} {K:PySem.W.Frag} {mg:Str->Option Value} {base:Heap} {f:Addr} {fd:FuncData}
def spLaw (K:PySem.W.Frag):Sp:=fun vs H Q _=>∃ (a:Addr) (ns:List Int),vs=[.ref a]/\SqL K H a (ns.map V.int)/\ns.length<=63/\∀ H',Q (.bl true) H'
theorem z16 {ps:List Str} {k:Nat} {sp:Sp} (no:∀ vs H Q E,¬ sp vs H Q E):FnOk P w K mg base CX0 k f fd ps sp :=
 ⟨fun vs H Q E h=>absurd h (no vs H Q E),fun A outer s H args us vs Q E _ _ _ _ h=>absurd h (no vs H Q E)⟩
end
namespace Lad
theorem lays:∀ l:Lad,PyData.canLayAll0 l.encs=true
 | .nil=>by simp [encs,PyData.canLayAll0]
 | .cons e m r=>by simp [encs,PyData.canLayAll0,PyData.canLay0,lays e,lays r]
theorem shaped_enc {l:Lad} (h:l.deep<=31):SeqAt.shaped l.enc=true:=by
 have:=l.enc_depth
 unfold SeqAt.shaped
 rw [show l.enc.canLay0=true by rw [enc,PyData.canLay0]; exact lays l]
 simp; omega
theorem pEnc_alike (p q:Lad × Int):alike (pEnc p) (pEnc q)=true:=by simp [pEnc,alike,alikeAll,p.1.alike_enc q.1]
theorem pEnc_noList (p:Lad × Int):z03 (pEnc p)=true:=by simp [pEnc,z03,z06,Lad.noList_enc]
theorem pEnc_depth (p:Lad × Int):(pEnc p).depth<=2*p.1.deep+2:=by
 have:=p.1.enc_depth
 simp only [pEnc,PyData.depth,PyData.depthAll]; omega
theorem pEnc_all (bs:List (Lad × Int)):AllAlike (bs.map pEnc):=AllAlike.of pEnc_alike
theorem pEnc_sortable (bs:List (Lad × Int)):Sortable (bs.map pEnc):=Sortable.tuples fun b=>⟨_,_,rfl⟩
theorem pLt (p q:Lad × Int):dataLt (pEnc p) (pEnc q)=if p.1=q.1 then decide (p.2 < q.2) else p.1.lt q.1:=by
 unfold pEnc
 rw [dataLt_pair (p.1.alike_enc q.1) (by simp [alike]),Lad.eqv_enc]
 by_cases h:p.1=q.1
 ·rw [if_pos (by simp [h]),if_pos h,dataLt_int]
  by_cases h2:p.2=q.2
  ·simp [PyData.eqv,h2]
  ·simp [PyData.eqv,h2]
 ·rw [if_neg (by simp [h]),if_neg h]; rfl
/-- the parts of pairs -/
def tot:List (Lad × Int)->Nat
 | []=>0
 | p::r=>1+p.1.parts+tot r
theorem parts_ofPs:∀ bs:List (Lad × Int),(ofPs bs).parts=tot bs
 | []=>rfl
 | (e,m)::r=>by show 1+e.parts+(ofPs r).parts=1+e.parts+tot r; rw [parts_ofPs r]
theorem tot_append:∀ bs cs:List (Lad × Int),tot (bs++cs)=tot bs+tot cs
 | [],cs=>by simp [tot]
 | p::r,cs=>by show 1+p.1.parts+tot (r++cs)=_; rw [tot_append r cs,tot]; omega
theorem tot_filter (f:Lad × Int->Bool):∀ bs:List (Lad × Int),tot (bs.filter f)<=tot bs
 | []=>by simp [tot]
 | p::r=>by
  have:=tot_filter f r
  rw [List.filter_cons]
  split
  ·show 1+p.1.parts+tot (r.filter f)<=1+p.1.parts+tot r; omega
  ·show tot (r.filter f)<=1+p.1.parts+tot r; omega
theorem tot_perm {bs cs:List (Lad × Int)} (h:bs.Perm cs):tot bs=tot cs:=by
 induction h with
 | nil=>rfl
 | cons x _ ih=>simp only [tot]; omega
 | swap x y l=>simp only [tot]; omega
 | trans _ _ h1 h2=>omega
theorem deep_ofPs {n:Nat}:∀ {bs:List (Lad × Int)},(∀ b ∈ bs,b.1.deep < n)->(ofPs bs).deep<=n
 | [],_=>Nat.zero_le _
 | (e,m)::r,h=>by
  have h1:=deep_ofPs (bs:=r) fun b hb=>h b (mcm _ hb)
  have h2:e.deep < n:=h (e,m) (mcs ..)
  show max (1+e.deep) (ofPs r).deep<=n
  omega
abbrev srt (bs:List (Lad × Int)):List (Lad × Int):=bs.mergeSort (dataLe false pEnc)
end Lad
theorem z3j {K:PySem.W.Frag} {H:Hp} {a:Addr} {xs:List V} {bs:List (Lad × Int)} (h:SqT K H a xs) (hb:Bears K H Lad.pEnc xs bs):LA K H (.ref a) (Lad.ofPs bs):=by
 refine Dp.tup h ?_
 rw [Lad.encs_ps,Lad.ps_ofPs]
 exact hb.dp
theorem z0n {K:PySem.W.Frag} {H:Hp} {v:V} {l:Lad} (h:LA K H v l):∃ a xs,v=.ref a/\SqT K H a xs/\Bears K H Lad.pEnc xs l.ps:=by
 obtain ⟨a,xs,rfl,hs,ha⟩:=h.tup
 rw [Lad.encs_ps] at ha
 exact ⟨a,xs,rfl,hs,Bears.of ha⟩
def zde (K:PySem.W.Frag):R2:=fun x y H Q=>∃ a b xs ys,x=.ref a/\y=.ref b/\SqT K H a xs/\SqT K H b ys/\xs.length+ys.length<=10000/\∀ c H',SB [] H H'->SqT K H' c (xs++ys)->Q (.ref c) H'
def rSlB (K:PySem.W.Frag):V->Option Int->Option Int->Hp->VK->Prop:=fun x lo hi H Q=>∃ a xs,x=.ref a/\SqT K H a xs/\∀ c H',SB [] H H'->SqT K H' c (cutV xs lo hi)->Q (.ref c) H'
section
variable {X:Cx}
theorem z7j:OpR X (binaryOp .Add) (zde X.K):=by
 intro pins s σ H x y v u Q I rx ry h
 obtain ⟨a,b,xs,ys,rfl,rfl,ha,hb,hz,q⟩:=h
 refine op_catA pins s σ H _ _ v u Q I rx ry ⟨a,b,xs,ys,rfl,rfl,ha,hb,by rw [sizeLine_eq]; omega,fun e=>?_,fun e1 e2=>?_,fun e1 e2 p hp=>?_⟩
 ·subst e; exact q b H SB.refl hb
 ·subst e2; exact q a H SB.refl (by rw [List.append_nil]; exact ha)
 ·exact q p _ (SB.new hp _) (SqT.of upd_same)
theorem zg9:SlR X (rSlB X.K):=by
 intro pins s σ H x v vl vu lo hi sl Q I rx hs pl pu h
 obtain ⟨a,xs,rfl,hx,q⟩:=h
 refine sl_tupA pins s σ H _ v vl vu lo hi sl Q I rx hs pl pu ⟨a,xs,rfl,hx,fun e=>?_,fun e p hp=>?_⟩
 ·refine q a H SB.refl ?_
  have:cutV xs lo hi=xs:=by
   unfold cutV
   rw [e.1,e.2]
   simp
  rw [this]; exact hx
 ·exact q p _ (SB.new hp _) (SqT.of upd_same)
end
theorem z9u (xs:List V) (k:Nat):cutV xs (some (k:Int)) none=xs.drop k:=by
 unfold cutV
 have h1:HT.sIx xs.length 0 (some (k:Int))=min k xs.length:=HT.sIx_nat xs.length 0 k
 have h2:HT.sIx xs.length xs.length none=xs.length:=rfl
 rw [h1,h2]
 by_cases h:k<=xs.length
 ·rw [Nat.min_eq_left h,List.take_of_length_le (by rw [List.length_drop]; omega)]
 ·rw [Nat.min_eq_right (by omega),List.drop_eq_nil_of_le (Nat.le_refl _),List.drop_eq_nil_of_le (by omega)]
  simp
namespace Lad
def sumAt (ps:List (Lad × Int)) (e:Lad):Int:=((ps.filter fun p=>decide (p.1=e)).map (·.2)).sum
/-- the second behind the first -/
def bhd (l k:Lad):Lad:=match k.ps with
 | []=>l
 | (e,m)::r=>ofPs (l.ps.filter (fun p=>e.lt p.1)++(e,sumAt l.ps e+m)::r)
theorem bhd_nil (l:Lad):bhd l .nil=l:=rfl
theorem bhd_cons (l e:Lad) (m:Int) (r:Lad):bhd l (.cons e m r)=ofPs (l.ps.filter (fun p=>e.lt p.1)++(e,sumAt l.ps e+m)::r.ps):=rfl
end Lad
def z6f (K:PySem.W.Frag):Sp:=fun vs H Q _=>∃ (v u:V) (l e:Lad),vs=[v,u]/\LA K H v l/\LA K H u e/\l.deep<=30/\e.deep<=30/\l.parts<=1000/\∀ H',SB [] H H'->Q (.int (Lad.sumAt l.ps e)) H'
def z26 (K:PySem.W.Frag):Sp:=fun vs H Q _=>∃ (v u:V) (l k:Lad),vs=[v,u]/\LA K H v l/\LA K H u k/\l.deep<=30/\k.deep<=30/\l.parts<=900/\k.parts<=900/\∀ (x:V) (H':Hp),SB [] H H'->LA K H' x (l.bhd k)->Q x H'
namespace Lad
theorem deep_parts_mem {l:Lad} {n:Nat} (h:l.deep<=n):∀ p ∈ l.ps,p.1.deep < n:=fun p hp=>Nat.lt_of_lt_of_le (mem_deep l p hp) h
end Lad
theorem Pu.ne {H:Hp} {p q:Addr} (h:Pu H p) (n:H q=none):p ≠ q:=by
 obtain ⟨x,y,h1,h2⟩:=h
 exact ne_of_none h1 n
abbrev zh2 (K:PySem.W.Frag) (hi:Int):TI:=iEnum K (tCons (tOp rCat (tLst (tCons (tCall (spAt K) [] E0 (tCons (tVar 0) (tCons (tC (.int 0)) tNil))) tNil)) (tSl (rSlL K) (tVar 0) (tPart (tC (.int 1))) (tPart (tC (.int hi))))) tNil)
/-- for k,cell in enumerate([_law_at(script,0)]+script[1:hi]) -/
theorem zfn {K:PySem.W.Frag} {H:Hp} {a:Addr} {ns:List Int} {σ:L2.St} {tb:TS} {D:Ends} {hi:Int} (hσ:σ[0]?=some (some (.ref a))) (hs:SqL K H a (ns.map V.int)) (h63:ns.length<=63) (Pv:L2.St->Hp->Prop)
  (h0:∀ H3,SB [] H H3->Pv σ H3) (mono:∀ σ H2 H3,SB [] H2 H3->Pv σ H2->Pv σ H3)
  (step:∀ (H3:Hp),SB [] H H3->∀ (i:Nat) (c:Int) (σ:L2.St) (H2:Hp),i < 64->SB [] H3 H2->Pv σ H2->tb { D with nx:=fun σ' H'=>SB [] H3 H'/\Pv σ' H',ct:=fun σ' H'=>SB [] H3 H'/\Pv σ' H',bk:=D.nx } ((σ.set 1 (some (.int (i:Nat)))).set 2 (some (.int c))) H2)
  (done:∀ σ H2,SB [] H H2->Pv σ H2->D.nx σ H2):tFor (zh2 K hi) (gTup K 2 (gCons (gName 1) (gCons (gName 2) gNil))) tb D σ H:=by
 refine ⟨_,hσ,a,ns,0,rfl,hs,fun c0=>?_⟩
 refine ⟨(by show 1<=sizeLine; decide),fun l1 hl1=>?_⟩
 have e1:=SB.new (ps:=[]) hl1 (.lst [.int c0])
 refine ⟨_,hσ,1,rfl,hi,rfl,a,_,rfl,e1.sqL nmn hs,fun l2 hl2=>?_⟩
 obtain ⟨ms,em,hml⟩:=zgf ns (some 1) (some hi)
 rw [em]
 have e2:=SB.new (ps:=[]) hl2 (.lst (ms.map V.int))
 refine ⟨l1,l2,_,_,rfl,rfl,e2.keep _ _ upd_same nmn,upd_same,?_,fun l3 hl3=>?_⟩
 ·rw [List.length_map,List.length_singleton,sizeLine_eq]; omega
 have e3:=SB.new (ps:=[]) hl3 (.lst ([V.int c0]++ms.map V.int))
 have ea:([V.int c0]++ms.map V.int:List V)=(c0::ms).map V.int:=rfl
 refine ⟨l3,_,rfl,SqL.of upd_same,?_⟩
 rw [ea]
 rw [ea] at e3
 have e4:=(e1.trans e2).trans e3
 have hl3':(upd (upd (upd H l1 (.lst [.int c0])) l2 (.lst (ms.map V.int))) l3 (.lst ((c0::ms).map V.int))) l3=some (.lst ((c0::ms).map V.int)):=upd_same
 generalize hH3:upd (upd (upd H l1 (.lst [.int c0])) l2 (.lst (ms.map V.int))) l3 (.lst ((c0::ms).map V.int))=H3 at e4 hl3'
 have n64:(c0::ms).length<=64:=by rw [List.length_cons]; omega
 refine for_it (walk_enum (K:=K) (a:=l3) (xs:=(c0::ms).map V.int)) (fun i σ H2=>SB [] H3 H2/\Pv σ H2) ⟨SB.refl,h0 H3 e4⟩ (fun i σ H2 hi h2=>h2.1.sqL nmn (SqL.of hl3')) (fun i x σ H2 H' hi' h2 y=>?_) (fun σ H2 h2=>done σ H2 (e4.trans h2.1) h2.2)
 obtain ⟨s2,pv⟩:=h2
 obtain ⟨T,x1,y1,rfl,hT,rfl,ex,ey⟩:=y
 have ex:some (V.int (i:Nat))=some x1:=ex
 cases ex
 have ey:((c0::ms).map V.int)[i]?=some y1:=ey
 rw [List.getElem?_map] at ey
 rw [List.length_map] at hi'
 obtain ⟨c,rfl⟩:∃ c:Int,y1=.int c:=by
  cases e:(c0::ms)[i]? with
  | none=>rw [e] at ey; cases ey
  | some c=>rw [e] at ey; exact ⟨c,(Option.some.inj ey).symm⟩
 have s3:=SB.new (ps:=[]) hT (.tup [.int (i:Nat),.int c])
 exact ⟨T,_,rfl,SqT.of upd_same,rfl,_,_,rfl,_,_,rfl,rfl,step H3 e4 i c σ _ (by omega) (s2.trans s3) (mono _ _ _ s3 pv)⟩
namespace Lad
theorem bhd_parts (l k:Lad):(bhd l k).parts<=l.parts+k.parts:=by
 cases k with
 | nil=>rw [bhd_nil]; omega
 | cons e m r =>
  rw [bhd_cons,parts_ofPs,tot_append]
  have h1:l.parts=tot l.ps:=by rw [<- parts_ofPs,ofPs_ps]
  have h2:=tot_filter (fun p=>e.lt p.1) l.ps
  have h3:r.parts=tot r.ps:=by rw [<- parts_ofPs,ofPs_ps]
  simp only [tot,Lad.parts]
  omega
theorem bhd_deep {n:Nat} {l k:Lad} (hl:l.deep<=n) (hk:k.deep<=n):(bhd l k).deep<=n:=by
 cases k with
 | nil=>rw [bhd_nil]; exact hl
 | cons e m r =>
  rw [bhd_cons]
  refine deep_ofPs fun b hb=>?_
  rcases List.mem_append.mp hb with hb | hb
  ·exact deep_parts_mem hl b (List.mem_filter.mp hb).1
  ·rcases List.mem_cons.mp hb with hb | hb
   ·subst hb; exact deep_parts_mem hk (e,m) (mcs ..)
   ·exact deep_parts_mem hk b (mcm _ hb)
theorem nil_bhd (k:Lad):bhd .nil k=k:=by
 cases k with
 | nil=>rfl
 | cons e m r =>
  rw [bhd_cons]
  show ofPs ([]++(e,sumAt [] e+m)::r.ps)=_
  have:sumAt [] e+m=m:=by simp [sumAt]
  rw [this]
  show cons e m (ofPs r.ps)=_
  rw [ofPs_ps]
end Lad
theorem Bears.at {K:PySem.W.Frag} {H:Hp} {β:Type} {enc:β->PyData}:∀ {vs:List V} {bs:List β} {i:Nat} {b:β},Bears K H enc vs bs->bs[i]?=some b->∃ v,vs[i]?=some v/\Dp K H v (enc b)
 | _,_,_,_,.nil,e=>by simp at e
 | _,_,0,_,.cons h t,e=>by simp at e; subst e; exact ⟨_,rfl,h⟩
 | _,_,i+1,b,.cons h t,e=>by
  obtain ⟨d,h1,h2⟩:=Bears.at (i:=i) (b:=b) t (by simpa using e)
  exact ⟨d,by simpa using h1,h2⟩
theorem Bears.set {K:PySem.W.Frag} {H:Hp} {β:Type} {enc:β->PyData} {v:V} {b:β} (hv:Dp K H v (enc b)):∀ {vs:List V} {bs:List β} (i:Nat),Bears K H enc vs bs->Bears K H enc (vs.set i v) (bs.set i b)
 | _,_,_,.nil=>.nil
 | _,_,0,.cons h t=>.cons hv t
 | _,_,i+1,.cons h t=>.cons h (Bears.set hv i t)
namespace Lad
theorem le_trans {a b c:Lad} (h1:b.lt a=false) (h2:c.lt b=false):c.lt a=false:=by
 cases e:c.lt a with
 | false=>rfl
 | true =>
  by_cases hab:a=b
  ·subst hab; rw [e] at h2; cases h2
  ·have h3:a.lt b=true:=lt_tri b a (fun z=>hab z.symm) h1
   have h4:=lt_trans c a b e h3
   rw [h4] at h2; cases h2
theorem le_of_lt {a b:Lad} (h:a.lt b=true):b.lt a=false:=lt_asymm h
end Lad
section
variable {prog:Program} {w:World} {A:Around} {E:Value->Shared->Prop} {s:Shared} {β:Type} {vs:List Value} {bs:List β} {enc:β->PyData} {R:Value->β->Prop}
/-- sorted(t,..),t a tuple of data that are alike -/
theorem z9d {t:Addr} {kw:List (Str × Value)} {b:Bool} {Q:Value->Shared->Prop} (hkw:∀ a,Builtin.«list.sort» ⟨[.ref a],kw⟩=Builtin.«list.sort» ⟨[.ref a],[(Str.ofString "reverse",.bool b)]⟩) (ha1:argsOk "sorted" ⟨[.ref t],kw⟩) (ha2:∀ x,argsOk "list.sort" ⟨[.ref x],kw⟩)
  (ht:IsTup s.heap t vs.toArray) (e:EachIs R vs bs) (er:EachIs (fun v b=>∃ as,Reads s.heap v (enc b) as) vs bs) (hal:AllAlike (bs.map enc)) (hk:Sortable (bs.map enc)) (hL:bs.length<=sizeLine)
  (hu:∀ b,b ∈ bs->A.units+2+(enc b).depth < cLine)
  (h:∀ (out:List Value) (h' h2:Heap) (n:Nat),(∀ b o,s.heap.get? b=some o->h'.get? b=some o)->(∀ b o,h'.get? b=some o->h2.get? b=some o)->h2.get? h'.objs.size=some (seqObj "list" out.toArray n)->out.length=bs.length->EachIs R out (bs.mergeSort (dataLe b enc))->Q (.ref h'.objs.size) { s with heap:=h2 }) :
  wpAny (model prog w) A (call (.builtin "sorted") [.ref t] kw) Q E s:=by
 have hlen:vs.length<=sizeLine:=by rw [e.length]; exact hL
 obtain ⟨o,ho,hc,n0,hd⟩:=id ht
 refine call_function_entry_kw kind_sorted plain_sorted entry_sorted ha1 ?_
 unfold Builtin.«sorted»
 refine wpAny_bind (m:=checkCount "sorted" 1 1 _) (wpAny_pure ?_)
 refine wpAny_bind (wpAny_collect_seq t (.inr rfl) ho hc hd (fun h' hk'=>?_) (by rw [List.size_toArray]; exact hlen))
 refine wpAny_bind (wpAny_newList ?_ hlen)
 show wpAny _ _ _ _ _ { s with heap:=h'.push (seqObj "list" vs.toArray 0) }
 have hat:(h'.push (seqObj "list" vs.toArray 0)).get? h'.objs.size=some (seqObj "list" vs.toArray 0):=Heap.get?_push_size _ rfl
 refine wpAny_bind (wpAny_holding (wpAny_call_entry_kw slot_list_sort ⟨_,hat,rfl⟩ entry_list_sort ?body (ha2 _)))
 case body =>
  rw [hkw]
  have old:∀ b o,h'.get? b=some o->(sortingHeap (h'.push (seqObj "list" vs.toArray 0)) h'.objs.size vs).get? b=some o:=fun b o q=>sortingHeap_old (Nat.ne_of_lt (Heap.lt_size q)) (Heap.get?_push_of_some _ q)
  have er':EachIs (fun v b=>∃ as,Reads (sortingHeap (h'.push (seqObj "list" vs.toArray 0)) h'.objs.size vs) v (enc b) as) vs bs:=er.mono fun _ _ ⟨as,r⟩=>⟨as,PyProof.Rows.Reads.keeps (fun b o q=>old b o (hk' b o q)) r⟩
  refine list_sort_rev_vals (s:={ s with heap:=h'.push (seqObj "list" vs.toArray 0) }) (κ:=dataKind (sortingHeap (h'.push (seqObj "list" vs.toArray 0)) h'.objs.size vs) (bs.map enc)) hat (SortsAt.data (s:={ s with heap:=sortingHeap (h'.push (seqObj "list" vs.toArray 0)) h'.objs.size vs }) (each_map (R:=fun v d=>∃ as,Reads (sortingHeap (h'.push (seqObj "list" vs.toArray 0)) h'.objs.size vs) v d as) enc er') hal hk (bound_map hu)) hlen ?_
  refine ⟨_,rfl,wpAny_pure ⟨_,rfl,?_⟩⟩
  obtain ⟨n2,hn2⟩:=sortedHeap_at (out:=(sortVals (dataKind (sortingHeap (h'.push (seqObj "list" vs.toArray 0)) h'.objs.size vs) (bs.map enc)) b vs vs).toArray) hat
  refine h _ h' _ n2 hk' (fun b o q=>?_) hn2 (by rw [sortVals_length b rfl]; exact e.length) (sortVals_data b e er' hal)
  rw [sortedHeap_old (Nat.ne_of_lt (Heap.lt_size q)) (by rw [size_push']; exact Nat.lt_succ_of_lt (Heap.lt_size q))]
  exact Heap.get?_push_of_some _ q
end
/-- sorted(t),sorted(t,reverse=b) -/
def z8s (K:PySem.W.Frag) {β:Type} (enc:β->PyData) (b:Bool) (vs:List V) (H:Hp) (Q:VK):Prop:=∃ (a:Addr) (xs:List V) (bs:List β),vs=[V.ref a]/\SqT K H a xs/\Bears K H enc xs bs/\AllAlike (bs.map enc)/\Sortable (bs.map enc)/\bs.length<=10000/\(∀ b ∈ bs,(enc b).depth<=100) /\
 ∀ (p:Addr) (ys:List V),H p=none->Bears K H enc ys (bs.mergeSort (dataLe b enc))->Q (.ref p) (upd H p (.lst ys))
section
variable {X:Cx}
theorem z9a {β:Type} {enc:β->PyData} {b:Bool} {kw:List (Str × Value)} (hu:X.A.units+110 < cLine) (hkw:∀ a,Builtin.«list.sort» ⟨[.ref a],kw⟩=Builtin.«list.sort» ⟨[.ref a],[(Str.ofString "reverse",.bool b)]⟩) (ha1:∀ t,argsOk "sorted" ⟨[.ref t],kw⟩) (ha2:∀ x,argsOk "list.sort" ⟨[.ref x],kw⟩)
  {pins:List (Addr × Obj)} {s:Shared} {σ:L2.St} {H:Hp} {vs:List V} {us:List Value} {Q:VK} (I:Inv X pins σ H s) (r:Vals vs us) (h:z8s X.K enc b vs H Q):wpAny (model X.prog X.w) X.A (call (.builtin "sorted") us kw) (EP X pins σ Q) X.xe s:=by
 obtain ⟨a,xs,bs,rfl,hs,hb,hal,hsr,hl,hd,q⟩:=h
 obtain ⟨its,rv,hli,_⟩:=I.tuple hs
 rw [Vals.ref1 r]
 obtain ⟨e1,e2⟩:=z5c I hb rv
 refine z9d (vs:=its) (bs:=bs) (enc:=enc) (R:=fun u b=>∃ v,RelV v u/\Dp X.K H v (enc b)) hkw (ha1 _) ha2 hli e1 e2 hal hsr (by rw [sizeLine_eq]; omega) (fun b m=>by have:=hd b m; omega) fun out h' h2 n k1 k2 hat ho h1=>?_
 obtain ⟨ys,g2,g3⟩:=z7g h1
 have I':Inv X pins σ H { s with heap:=h' }:=I.kept (t':=s.toks) k1
 have hlen:ys.length<=sizeLine:=by rw [g2.length,ho,sizeLine_eq]; omega
 exact ⟨.ref _,upd H h'.objs.size (.lst ys),I'.laid (t':=s.toks) (fun b o e=>k2 b o e) (Nat.le_refl _) ⟨hlen,out,n,g2,hat⟩,rfl,q _ ys (I'.hok.fresh (Nat.le_refl _)) g3⟩
theorem za8 {β:Type} (enc:β->PyData) (hu:X.A.units+110 < cLine):CallR X (.builtin "sorted") (z8s X.K enc false):=by
 intro pins s σ H vs us Q I r h
 exact z9a (kw:=[]) hu plain_is_rev (fun _=>args_sorted1 _) (fun _=>args_list_sort _) I r h
end
section
variable {γ:Type} [DecidableEq γ]
def z0j (enc:γ->PyData) (p:γ × Int):PyData:=.tuple [enc p.1,.int p.2]
def z04 (acc:List (γ × Int)) (p:γ × Int):List (γ × Int):=match acc.getLast? with
 | some q=>if q.1=p.1 then acc.dropLast++[(p.1,q.2+p.2)] else acc++[p]
 | none=>[p]
def jn (bs:List (γ × Int)):List (γ × Int):=bs.foldl z04 []
theorem z0o (p:γ × Int):z04 [] p=[p]:=rfl
theorem z0c (acc:List (γ × Int)) (q p:γ × Int):z04 (acc++[q]) p=if q.1=p.1 then acc++[(p.1,q.2+p.2)] else acc++[q]++[p]:=by
 unfold z04
 rw [List.getLast?_append]
 simp
theorem z94 (acc:List (γ × Int)) (p:γ × Int):(z04 acc p).length<=acc.length+1:=by
 rcases List.eq_nil_or_concat acc with h | ⟨a,q,h⟩
 ·subst h; simp [z04]
 ·subst h
  rw [List.concat_eq_append,z0c]
  split <;> simp
theorem zg2 (bs:List (γ × Int)) (i:Nat) (p:γ × Int) (h:bs[i]?=some p):jn (bs.take (i+1))=z04 (jn (bs.take i)) p:=by
 unfold jn
 rw [List.take_add_one,h,List.foldl_append]
 rfl
theorem zbc (bs:List (γ × Int)):(jn bs).length<=bs.length:=by
 have key:∀ (bs acc:List (γ × Int)),(bs.foldl z04 acc).length<=acc.length+bs.length:=by
  intro bs
  induction bs with
  | nil=>intro acc; simp
  | cons p r ih =>
   intro acc
   have h1:=ih (z04 acc p)
   have h2:=z94 acc p
   show (r.foldl z04 (z04 acc p)).length<=_
   rw [List.length_cons]
   omega
 have:=key bs []
 simpa [jn] using this
theorem z22 (bs:List (γ × Int)):∀ p ∈ jn bs,∃ q ∈ bs,q.1=p.1:=by
 have key:∀ (bs acc:List (γ × Int)),∀ p ∈ bs.foldl z04 acc,(∃ q ∈ acc,q.1=p.1)\/∃ q ∈ bs,q.1=p.1:=by
  intro bs
  induction bs with
  | nil=>intro acc p hp; exact .inl ⟨p,hp,rfl⟩
  | cons x r ih =>
   intro acc p hp
   rcases ih (z04 acc x) p hp with ⟨q,hq,e⟩ | ⟨q,hq,e⟩
   ·rcases List.eq_nil_or_concat acc with h | ⟨a,z,h⟩
    ·subst h
     rw [z0o] at hq
     have:q=x:=by simpa using hq
     subst this
     exact .inr ⟨q,mcs ..,e⟩
    ·subst h
     rw [List.concat_eq_append] at hq ⊢
     rw [z0c] at hq
     by_cases hz:z.1=x.1
     ·rw [if_pos hz] at hq
      rcases List.mem_append.mp hq with hq | hq
      ·exact .inl ⟨q,mal _ hq,e⟩
      ·have:q=(x.1,z.2+x.2):=by simpa using hq
       subst this
       exact .inr ⟨x,mcs ..,e⟩
     ·rw [if_neg hz] at hq
      rcases List.mem_append.mp hq with hq | hq
      ·exact .inl ⟨q,hq,e⟩
      ·have:q=x:=by simpa using hq
       subst this
       exact .inr ⟨q,mcs ..,e⟩
   ·exact .inr ⟨q,mcm _ hq,e⟩
 intro p hp
 rcases key bs [] p hp with ⟨q,hq,_⟩ | h
 ·cases hq
 ·exact h
/-- unlike neighbours stay as they are -/
theorem zdu {bs:List (γ × Int)} (h:bs.Pairwise (fun a b=>a.1 ≠ b.1)):jn bs=bs:=by
 have key:∀ (bs acc:List (γ × Int)),(acc++bs).Pairwise (fun a b=>a.1 ≠ b.1)->bs.foldl z04 acc=acc++bs:=by
  intro bs
  induction bs with
  | nil=>intro acc _; simp
  | cons x r ih =>
   intro acc hp
   have e:z04 acc x=acc++[x]:=by
    rcases List.eq_nil_or_concat acc with h | ⟨a,z,h⟩
    ·subst h; rfl
    ·subst h
     rw [List.concat_eq_append] at hp ⊢
     rw [z0c,if_neg]
     have h2:=(List.pairwise_append.mp hp).2.2 z (by simp) x (mcs ..)
     exact h2
   show r.foldl z04 (z04 acc x)=_
   rw [e,ih]
   ·simp
   ·simpa using hp
 have:=key bs [] (by simpa using h)
 simpa [jn] using this
end
/-- pairs (thing,many),joined; things of γ by enc -/
def z41 (K:PySem.W.Frag) {γ:Type} [DecidableEq γ] (enc:γ->PyData):Sp:=fun vs H Q _=>∃ (a:Addr) (xs:List V) (bs:List (γ × Int)),vs=[.ref a]/\SqL K H a xs/\Bears K H (z0j enc) xs bs/\bs.length<=1000/\(∀ b ∈ bs,SeqAt.shaped (enc b.1)=true) /\
 ∀ (c:Addr) (ys:List V) (H':Hp),SB [] H H'->SqT K H' c ys->Bears K H' (z0j enc) ys (jn bs)->Q (.ref c) H'
theorem z9x {K:PySem.W.Frag} {H:Hp} {γ:Type} {enc:γ->PyData} {v:V} {p:γ × Int} (h:Dp K H v (z0j enc p)):∃ a u,v=.ref a/\SqT K H a [u,.int p.2]/\Dp K H u (enc p.1):=by
 have h':Dp K H v (.tuple [enc p.1,.int p.2]):=h
 cases h' with
 | tup hs ha =>
  cases ha with
  | cons a1 a2 =>
   cases a2 with
   | cons b1 b2 =>
    cases b2
    cases b1
    exact ⟨_,_,rfl,hs,a1⟩
theorem z4w {γ:Type} {enc:γ->PyData} (hn:∀ g,z03 (enc g)=true) (p:γ × Int):z03 (z0j enc p)=true:=by simp [z0j,z03,z06,hn]
theorem z77 {K:PySem.W.Frag} {H:Hp} {γ:Type} {enc:γ->PyData} {a:Addr} {u:V} {g:γ} {m:Int} (h:SqT K H a [u,.int m]) (h2:Dp K H u (enc g)):Dp K H (.ref a) (z0j enc (g,m)):=Dp.tup h (.cons h2 (.cons (.int m) .nil))
theorem Bears.snoc {K:PySem.W.Frag} {H:Hp} {β:Type} {enc:β->PyData} {vs:List V} {bs:List β} {b:β} (h:Bears K H enc vs (bs++[b])):∃ us u,vs=us++[u]/\Bears K H enc us bs/\Dp K H u (enc b):=by
 induction bs generalizing vs with
 | nil =>
  cases h with
  | cons h1 h2=>cases h2; exact ⟨[],_,rfl,.nil,h1⟩
 | cons c r ih =>
  cases h with
  | cons h1 h2 =>
   obtain ⟨us,u,e,h3,h4⟩:=ih h2
   exact ⟨_::us,u,by rw [e]; rfl,.cons h1 h3,h4⟩
theorem z9r {xs:List V} {x:V}:atI (xs++[x]) (-1)=some x:=by
 unfold atI ixN
 rw [if_neg (by decide),if_pos (by rw [List.length_append,List.length_singleton]; omega)]
 simp only [List.length_append,List.length_singleton,Option.bind_some]
 have:((-1:Int)+((xs.length+1:Nat):Int)).toNat=xs.length:=by omega
 rw [this]
 simp
theorem zcv {xs:List V} {x:V}:ixN (xs++[x]).length (-1)=some xs.length:=by
 unfold ixN
 rw [if_neg (by decide),if_pos (by rw [List.length_append,List.length_singleton]; omega),List.length_append,List.length_singleton]
 congr 1; omega
theorem zd6 {xs:List V} {x y:V}:(xs++[x]).set xs.length y=xs++[y]:=by simp
namespace Lad
theorem anti {a b:Lad × Int} (h1:dataLt (pEnc a) (pEnc b)=false) (h2:dataLt (pEnc b) (pEnc a)=false):a=b:=by
 rw [pLt] at h1 h2
 by_cases h:a.1=b.1
 ·rw [if_pos h] at h1
  rw [if_pos h.symm] at h2
  have e1:=of_decide_eq_false h1
  have e2:=of_decide_eq_false h2
  exact Prod.ext h (by omega)
 ·rw [if_neg h] at h1
  rw [if_neg (fun z:b.1=a.1=>h z.symm),lt_tri _ _ h h1] at h2
  cases h2
abbrev dsc (bs:List (Lad × Int)):List (Lad × Int):=bs.mergeSort (dataLe true pEnc)
theorem dsc_perm (bs:List (Lad × Int)):(dsc bs).Perm bs:=List.mergeSort_perm _ _
theorem dsc_le (bs:List (Lad × Int)):(dsc bs).Pairwise (fun a b=>dataLt (pEnc a) (pEnc b)=false):=by
 have h:=sort_pairwise (le:=dataLe true pEnc) (sortLe_total _ _ _) bs
 refine h.imp fun {a b} hab=>?_
 have h2:(!dataLt (pEnc a) (pEnc b))=true:=hab
 simpa using h2
/-- two falling arrangements of the same are one -/
theorem falls_one:∀ {as bs:List (Lad × Int)},as.Perm bs->as.Pairwise (fun a b=>dataLt (pEnc a) (pEnc b)=false)->bs.Pairwise (fun a b=>dataLt (pEnc a) (pEnc b)=false)->as=bs
 | [],bs,h,_,_=>(List.nil_perm.mp h).symm
 | a::as,[],h,_,_=>by have:=h.length_eq; simp at this
 | a::as,b::bs,h,h1,h2=>by
  have hab:a=b:=by
   have ha:a ∈ b::bs:=h.mem_iff.mp (mcs ..)
   have hb:b ∈ a::as:=h.mem_iff.mpr (mcs ..)
   rcases List.mem_cons.mp ha with ha | ha
   ·exact ha
   ·rcases List.mem_cons.mp hb with hb | hb
    ·exact hb.symm
    ·exact anti ((List.pairwise_cons.mp h1).1 b hb) ((List.pairwise_cons.mp h2).1 a ha)
  subst hab
  rw [falls_one (List.Perm.cons_inv h) (List.pairwise_cons.mp h1).2 (List.pairwise_cons.mp h2).2]
theorem dsc_of {cs bs:List (Lad × Int)} (hp:cs.Perm bs) (hs:cs.Pairwise (fun a b=>dataLt (pEnc a) (pEnc b)=false)):cs=dsc bs:=falls_one (hp.trans (dsc_perm bs).symm) hs (dsc_le bs)
theorem dsc_swap (as bs:List (Lad × Int)):dsc (as++bs)=dsc (bs++as):=dsc_of ((dsc_perm _).trans List.perm_append_comm) (dsc_le _)
/-- both together -/
def bth (l k:Lad):Lad:=ofPs (jn (dsc (l.ps++k.ps)))
theorem bth_comm (l k:Lad):bth l k=bth k l:=by unfold bth; rw [dsc_swap]
theorem ok_falls {B:Int} {l:Lad} (h:l.Ok B):l.ps.Pairwise (fun a b=>dataLt (pEnc a) (pEnc b)=false)/\l.ps.Pairwise (fun a b=>a.1 ≠ b.1):=by
 have h2:=(ok_iff.mp h).2
 constructor
 ·refine h2.imp fun {a b} hab=>?_
  rw [pLt,if_neg (fun z:a.1=b.1=>lt_ne hab z.symm)]
  exact lt_asymm hab
 ·exact h2.imp fun {a b} hab (z:a.1=b.1)=>lt_ne hab z.symm
theorem bth_nil {B:Int} {l:Lad} (h:l.Ok B):bth l .nil=l:=by
 unfold bth
 rw [show l.ps++(Lad.nil).ps=l.ps by simp [ps],<- dsc_of (List.Perm.refl _) (ok_falls h).1,zdu (ok_falls h).2,ofPs_ps]
theorem tot_jstep (acc:List (Lad × Int)) (p:Lad × Int):tot (z04 acc p)<=tot acc+(1+p.1.parts):=by
 rcases List.eq_nil_or_concat acc with h | ⟨a,z,h⟩
 ·subst h; simp [z0o,tot]
 ·subst h
  rw [List.concat_eq_append,z0c]
  by_cases hz:z.1=p.1
  ·rw [if_pos hz,tot_append,tot_append]; simp only [tot]; rw [hz]; omega
  ·rw [if_neg hz,tot_append,tot_append]; simp only [tot]; omega
theorem tot_jn (bs:List (Lad × Int)):tot (jn bs)<=tot bs:=by
 have key:∀ (bs acc:List (Lad × Int)),tot (bs.foldl z04 acc)<=tot acc+tot bs:=by
  intro bs
  induction bs with
  | nil=>intro acc; simp [tot]
  | cons x r ih =>
   intro acc
   have h1:=ih (z04 acc x)
   have h2:=tot_jstep acc x
   show tot (r.foldl z04 (z04 acc x))<=tot acc+(1+x.1.parts+tot r)
   omega
 have:=key bs []
 simpa [jn,tot] using this
theorem bth_parts (l k:Lad):(bth l k).parts<=l.parts+k.parts:=by
 unfold bth
 rw [parts_ofPs]
 have h1:=tot_jn (dsc (l.ps++k.ps))
 rw [tot_perm (dsc_perm _),tot_append] at h1
 have h2:l.parts=tot l.ps:=by rw [<- parts_ofPs,ofPs_ps]
 have h3:k.parts=tot k.ps:=by rw [<- parts_ofPs,ofPs_ps]
 omega
theorem bth_deep {n:Nat} {l k:Lad} (hl:l.deep<=n) (hk:k.deep<=n):(bth l k).deep<=n:=by
 unfold bth
 refine deep_ofPs fun b hb=>?_
 obtain ⟨q,hq,e⟩:=z22 _ b hb
 rw [<- e]
 rcases List.mem_append.mp ((dsc_perm _).mem_iff.mp hq) with h | h
 ·exact deep_parts_mem hl q h
 ·exact deep_parts_mem hk q h
/-- so many of it -/
def tms (l:Lad) (m:Int):Lad:=if m=0 then .nil else ofPs (l.ps.map fun p=>(p.1,p.2*m))
theorem tot_map (f:Int->Int):∀ bs:List (Lad × Int),tot (bs.map fun p=>(p.1,f p.2))=tot bs
 | []=>rfl
 | p::r=>by show 1+p.1.parts+tot _=1+p.1.parts+tot r; rw [tot_map f r]
theorem tms_parts (l:Lad) (m:Int):(tms l m).parts<=l.parts:=by
 unfold tms
 split
 ·exact Nat.zero_le _
 ·rw [parts_ofPs,tot_map (fun x=>x*m),<- parts_ofPs,ofPs_ps]; exact Nat.le_refl _
theorem tms_deep {n:Nat} {l:Lad} (m:Int) (h:l.deep<=n):(tms l m).deep<=n:=by
 unfold tms
 split
 ·exact Nat.zero_le _
 ·refine deep_ofPs fun b hb=>?_
  obtain ⟨p,hp,rfl⟩:=List.mem_map.mp hb
  exact deep_parts_mem h p hp
end Lad
def z8t (K:PySem.W.Frag):Sp:=fun vs H Q _=>∃ (v u:V) (l k:Lad),vs=[v,u]/\LA K H v l/\LA K H u k/\l.deep<=25/\k.deep<=25/\l.parts<=400/\k.parts<=400/\∀ (x:V) (H':Hp),SB [] H H'->LA K H' x (l.bth k)->Q x H'
/-- so many of a ladder,its numbers and how many below 2 ^ 9000 -/
def z3k (K:PySem.W.Frag):Sp:=fun vs H Q _=>∃ (v:V) (l:Lad) (m:Int),vs=[v,.int m]/\LA K H v l/\l.parts<=900/\(∀ p ∈ l.ps,0<=p.2/\p.2 < 2 ^ 2000)/\0<=m/\m < 2 ^ 2000/\∀ (x:V) (H':Hp),SB [] H H'->LA K H' x (l.tms m)->Q x H'
theorem Th.weak {K:PySem.W.Frag} {ps:List Addr} {H:Hp}:∀ {v:V} {d:PyData},Th K ps H v d->Th K [] H v d:=by
 intro v d h
 have key:∀ (n:Nat) (d:PyData) (v:V),sizeOf d < n->Th K ps H v d->Th K [] H v d:=by
  intro n
  induction n with
  | zero=>intro d v hn; omega
  | succ n ih =>
   intro d v hn h
   cases h with
   | int i=>exact .int i
   | oth ty k1 k2 hn=>exact .oth ty k1 k2 (fun _ _=>nmn)
   | @tup a xs ds hs ha =>
    refine .tup hs ?_
    have hl:∀ (xs:List V) (ds:List PyData),sizeOf ds < n+1->ThAll K ps H xs ds->ThAll K [] H xs ds:=by
     intro xs
     induction xs with
     | nil=>intro ds _ h; cases h; exact .nil
     | cons x r ihr =>
      intro ds hd h
      cases h with
      | @cons _ _ d1 dr h1 h2 =>
       have e:sizeOf (d1::dr)=1+sizeOf d1+sizeOf dr:=by simp
       exact .cons (ih d1 x (by omega) h1) (ihr dr (by omega) h2)
    have e:sizeOf (PyData.tuple ds)=1+sizeOf ds:=by simp
    exact hl xs ds (by omega) ha
 exact key (sizeOf d+1) d v (by omega) h
theorem ThAll.append {K:PySem.W.Frag} {ps:List Addr} {H:Hp}:∀ {xs ys:List V} {ds es:List PyData},ThAll K ps H xs ds->ThAll K ps H ys es->ThAll K ps H (xs++ys) (ds++es)
 | _,_,_,_,.nil,h=>h
 | _,_,_,_,.cons a b,h=>.cons a (ThAll.append b h)
theorem ThAll.reverse {K:PySem.W.Frag} {ps:List Addr} {H:Hp}:∀ {xs:List V} {ds:List PyData},ThAll K ps H xs ds->ThAll K ps H xs.reverse ds.reverse
 | _,_,.nil=>.nil
 | _,_,.cons a b=>by
  rw [List.reverse_cons,List.reverse_cons]
  exact ThAll.append (ThAll.reverse b) (.cons a .nil)
theorem ThAll.take {K:PySem.W.Frag} {ps:List Addr} {H:Hp} (n:Nat):∀ {xs:List V} {ds:List PyData},ThAll K ps H xs ds->ThAll K ps H (xs.take n) (ds.take n):=by
 induction n with
 | zero=>intro xs ds h; rw [List.take_zero,List.take_zero]; exact .nil
 | succ n ih =>
  intro xs ds h
  cases h with
  | nil=>exact .nil
  | cons a b=>exact .cons a (ih b)
theorem ThAll.drop {K:PySem.W.Frag} {ps:List Addr} {H:Hp} (n:Nat):∀ {xs:List V} {ds:List PyData},ThAll K ps H xs ds->ThAll K ps H (xs.drop n) (ds.drop n):=by
 induction n with
 | zero=>intro xs ds h; exact h
 | succ n ih =>
  intro xs ds h
  cases h with
  | nil=>exact .nil
  | cons a b=>exact ih b
/-- how far a thing goes: depth and width -/
def Fits (n m:Nat) (d:PyData):Prop:=d.depth<=n/\wide d<=m
theorem Fits.mono {n m n' m':Nat} {d:PyData} (h:Fits n m d) (h1:n<=n') (h2:m<=m'):Fits n' m' d:=⟨Nat.le_trans h.1 h1,Nat.le_trans h.2 h2⟩
namespace Lad
theorem sumAt_nil (x:Lad):sumAt [] x=0:=rfl
theorem sumAt_cons (e:Lad) (m:Int) (r:List (Lad × Int)) (x:Lad):sumAt ((e,m)::r) x=(if e=x then m else 0)+sumAt r x:=by
 unfold sumAt
 rw [List.filter_cons]
 by_cases h:e=x
 ·simp [h]
 ·simp [h]
theorem sumAt_append (as bs:List (Lad × Int)) (x:Lad):sumAt (as++bs) x=sumAt as x+sumAt bs x:=by
 unfold sumAt
 rw [List.filter_append,List.map_append,List.sum_append]
theorem sumAt_zero {bs:List (Lad × Int)} {x:Lad} (h:∀ p ∈ bs,p.1 ≠ x):sumAt bs x=0:=by
 unfold sumAt
 have:bs.filter (fun p=>decide (p.1=x))=[]:=by
  rw [List.filter_eq_nil_iff]
  intro p hp
  simpa using h p hp
 rw [this]; rfl
theorem sumAt_perm {as bs:List (Lad × Int)} (h:as.Perm bs) (x:Lad):sumAt as x=sumAt bs x:=by
 induction h with
 | nil=>rfl
 | cons p _ ih=>obtain ⟨e,m⟩:=p; rw [sumAt_cons,sumAt_cons,ih]
 | swap p q l=>obtain ⟨e,m⟩:=p; obtain ⟨e',m'⟩:=q; rw [sumAt_cons,sumAt_cons,sumAt_cons,sumAt_cons]; omega
 | trans _ _ h1 h2=>omega
theorem sumAt_jstep (acc:List (Lad × Int)) (p:Lad × Int) (x:Lad):sumAt (z04 acc p) x=sumAt acc x+(if p.1=x then p.2 else 0):=by
 obtain ⟨e,m⟩:=p
 rcases List.eq_nil_or_concat acc with h | ⟨a,z,h⟩
 ·subst h; rw [z0o,sumAt_cons,sumAt_nil]; show (if e=x then m else 0)+0=0+(if e=x then m else 0); omega
 ·subst h
  obtain ⟨e',m'⟩:=z
  rw [List.concat_eq_append,z0c]
  by_cases hz:e'=e
  ·rw [if_pos hz,sumAt_append,sumAt_append,sumAt_cons,sumAt_cons,sumAt_nil]
   subst hz
   by_cases hx:e'=x
   ·simp only [if_pos hx]; omega
   ·simp only [if_neg hx]; omega
  ·rw [if_neg hz,sumAt_append,sumAt_append,sumAt_cons,sumAt_cons,sumAt_nil]; show _=_+(if e=x then m else 0); omega
theorem sumAt_jn (bs:List (Lad × Int)) (x:Lad):sumAt (jn bs) x=sumAt bs x:=by
 have key:∀ (bs acc:List (Lad × Int)),sumAt (bs.foldl z04 acc) x=sumAt acc x+sumAt bs x:=by
  intro bs
  induction bs with
  | nil=>intro acc; show sumAt acc x=_; rw [sumAt_nil]; omega
  | cons p r ih =>
   intro acc
   obtain ⟨e,m⟩:=p
   show sumAt (r.foldl z04 (z04 acc (e,m))) x=_
   rw [ih,sumAt_jstep,sumAt_cons]
   show _+(if e=x then m else 0)+_=_
   omega
 have:=key bs []
 rw [sumAt_nil] at this
 unfold jn
 omega
theorem sumAt_map (f:Int->Int) (hf:f 0=0) (hadd:∀ a b,f (a+b)=f a+f b):∀ (bs:List (Lad × Int)) (x:Lad),sumAt (bs.map fun p=>(p.1,f p.2)) x=f (sumAt bs x)
 | [],x=>by show sumAt [] x=_; rw [sumAt_nil,hf]
 | (e,m)::r,x=>by
  show sumAt ((e,f m)::r.map _) x=_
  rw [sumAt_cons,sumAt_cons,sumAt_map f hf hadd r x,hadd]
  by_cases h:e=x
  ·rw [if_pos h,if_pos h]
  ·rw [if_neg h,if_neg h,hf]
/-- the many at an exponent -/
abbrev S (l:Lad) (x:Lad):Int:=sumAt l.ps x
section
variable {B C:Int}
theorem S_top {e:Lad} {m:Int} {r:Lad} (h:(Lad.cons e m r).Ok B):S (.cons e m r) e=m:=by
 show sumAt ((e,m)::r.ps) e=m
 rw [sumAt_cons,if_pos rfl,sumAt_zero fun p hp=>lt_ne (h.2.2.2.2 p hp)]
 omega
theorem S_above {e:Lad} {m:Int} {r x:Lad} (h:(Lad.cons e m r).Ok B) (hx:e.lt x=true):S (.cons e m r) x=0:=by
 show sumAt ((e,m)::r.ps) x=0
 rw [sumAt_cons,if_neg (lt_ne hx),sumAt_zero fun p hp=>lt_ne (lt_trans _ _ _ (h.2.2.2.2 p hp) hx)]
 rfl
theorem S_mem {l:Lad} (h:l.Ok B) {p:Lad × Int} (hp:p ∈ l.ps):S l p.1=p.2:=by
 induction l with
 | nil=>cases hp
 | cons e m r _ ih =>
  rcases List.mem_cons.mp hp with hp | hp
  ·subst hp; exact S_top h
  ·show sumAt ((e,m)::r.ps) p.1=p.2
   rw [sumAt_cons,if_neg (fun z=>lt_ne (h.2.2.2.2 p hp) z.symm)]
   have:=ih h.2.2.2.1 hp
   show 0+S r p.1=_
   omega
theorem S_none {l x:Lad} (h:∀ p ∈ l.ps,p.1 ≠ x):S l x=0:=sumAt_zero h
theorem S_cases {l:Lad} (h:l.Ok B) (x:Lad):(S l x=0/\∀ p ∈ l.ps,p.1 ≠ x)\/(∃ m,(x,m) ∈ l.ps/\S l x=m/\1<=m/\m < B):=by
 by_cases hx:∃ p ∈ l.ps,p.1=x
 ·obtain ⟨p,hp,rfl⟩:=hx
  have:=(ok_iff.mp h).1 p hp
  exact .inr ⟨p.2,hp,S_mem h hp,this.2⟩
 ·have hx':∀ p ∈ l.ps,p.1 ≠ x:=fun p hp z=>hx ⟨p,hp,z⟩
  exact .inl ⟨S_none hx',hx'⟩
theorem S_nonneg {l:Lad} (h:l.Ok B) (x:Lad):0<=S l x:=by
 rcases S_cases h x with h1 | ⟨m,_,h1,h2,_⟩ <;> omega
/-- less by the first exponent,from above,at which they differ -/
def LT' (l k:Lad):Prop:=∃ x,S l x < S k x/\∀ y,x.lt y=true->S l y=S k y
theorem lt_of {l k:Lad}:∀ (_:l.Ok B) (_:k.Ok C),l.lt k=true->LT' l k:=by
 induction l generalizing k with
 | nil =>
  intro hl hk h
  cases k with
  | nil=>rw [lt_nil_nil] at h; cases h
  | cons e m r =>
   refine ⟨e,?_,fun y hy=>?_⟩
   ·rw [S_top hk]; show sumAt [] e < m; rw [sumAt_nil]; have:=hk.2.1; omega
   ·rw [S_above hk hy]; rfl
 | cons e m r _ ih =>
  intro hl hk h
  cases k with
  | nil=>rw [lt_cons_nil] at h; cases h
  | cons e' m' r' =>
   rw [lt_cons] at h
   by_cases he:e=e'
   ·subst he
    rw [if_pos rfl] at h
    by_cases hm:m=m'
    ·subst hm
     rw [if_pos rfl] at h
     obtain ⟨x,h1,h2⟩:=ih hl.2.2.2.1 hk.2.2.2.1 h
     refine ⟨x,?_,fun y hy=>?_⟩
     ·show sumAt ((e,m)::r.ps) x < sumAt ((e,m)::r'.ps) x
      rw [sumAt_cons,sumAt_cons]
      have:sumAt r.ps x < sumAt r'.ps x:=h1
      omega
     ·show sumAt ((e,m)::r.ps) y=sumAt ((e,m)::r'.ps) y
      rw [sumAt_cons,sumAt_cons]
      have:sumAt r.ps y=sumAt r'.ps y:=h2 y hy
      omega
    ·rw [if_neg hm] at h
     exact ⟨e,by rw [S_top hl,S_top hk]; exact of_decide_eq_true h,fun y hy=>by rw [S_above hl hy,S_above hk hy]⟩
   ·rw [if_neg he] at h
    refine ⟨e',?_,fun y hy=>?_⟩
    ·rw [S_above hl h,S_top hk]; have:=hk.2.1; omega
    ·rw [S_above hl (lt_trans _ _ _ h hy),S_above hk hy]
theorem LT'.asymm {l k:Lad} (h:LT' l k) (h2:LT' k l):False:=by
 obtain ⟨x,a1,a2⟩:=h
 obtain ⟨y,b1,b2⟩:=h2
 by_cases e:x=y
 ·subst e; omega
 ·cases hxy:x.lt y with
  | true=>have:=a2 y hxy; omega
  | false=>have:=b2 x (lt_tri x y e hxy); omega
theorem lt_iff {l k:Lad} (hl:l.Ok B) (hk:k.Ok C):l.lt k=true ↔ LT' l k:=by
 constructor
 ·exact lt_of hl hk
 ·intro h
  cases e:l.lt k with
  | true=>rfl
  | false =>
   by_cases hlk:l=k
   ·subst hlk; obtain ⟨x,h1,_⟩:=h; omega
   ·exact (LT'.asymm h (lt_of hk hl (lt_tri l k hlk e))).elim
theorem le_iff {l k:Lad} (hl:l.Ok B) (hk:k.Ok C) (h:¬ LT' l k):l.lt k=false:=by
 cases e:l.lt k with
 | false=>rfl
 | true=>exact (h (lt_of hl hk e)).elim
/-- two right ladders with the same numbers are one -/
theorem ext {l k:Lad} (hl:l.Ok B) (hk:k.Ok C) (h:∀ x,S l x=S k x):l=k:=by
 by_cases e:l=k
 ·exact e
 ·cases hlk:l.lt k with
  | true=>obtain ⟨x,h1,_⟩:=lt_of hl hk hlk; have:=h x; omega
  | false=>obtain ⟨x,h1,_⟩:=lt_of hk hl (lt_tri l k e hlk); have:=h x; omega
theorem jn_desc {bs:List (Lad × Int)} (h:bs.Pairwise (fun a b=>a.1.lt b.1=false)):(jn bs).Pairwise (fun p q=>q.1.lt p.1=true):=by
 have key:∀ (bs acc:List (Lad × Int)),acc.Pairwise (fun p q=>q.1.lt p.1=true)->(∀ a ∈ acc,∀ b ∈ bs,a.1.lt b.1=false)->bs.Pairwise (fun a b=>a.1.lt b.1=false)->(bs.foldl z04 acc).Pairwise (fun p q=>q.1.lt p.1=true):=by
  intro bs
  induction bs with
  | nil=>intro acc h _ _; exact h
  | cons p r ih =>
   intro acc h1 h2 h3
   obtain ⟨h31,h32⟩:=List.pairwise_cons.mp h3
   refine ih (z04 acc p) ?_ ?_ h32
   ·rcases List.eq_nil_or_concat acc with h | ⟨a,z,h⟩
    ·subst h; rw [z0o]; exact List.pairwise_singleton _ _
    ·subst h
     rw [List.concat_eq_append] at h1 h2 ⊢
     rw [z0c]
     obtain ⟨a1,_,a3⟩:=List.pairwise_append.mp h1
     by_cases hz:z.1=p.1
     ·rw [if_pos hz,List.pairwise_append]
      refine ⟨a1,List.pairwise_singleton _ _,fun x hx y hy=>?_⟩
      have hy':y=(p.1,z.2+p.2):=by simpa using hy
      subst hy'
      show p.1.lt x.1=true
      rw [<- hz]; exact a3 x hx z (by simp)
     ·rw [if_neg hz,List.pairwise_append]
      refine ⟨h1,List.pairwise_singleton _ _,fun x hx y hy=>?_⟩
      have hy':y=p:=by simpa using hy
      subst hy'
      have hzp:y.1.lt z.1=true:=lt_tri _ _ hz (h2 z (by simp) y (mcs ..))
      rcases List.mem_append.mp hx with hx | hx
      ·exact lt_trans _ _ _ hzp (a3 x hx z (by simp))
      ·have hx':x=z:=by simpa using hx
       subst hx'; exact hzp
   ·intro a ha b hb
    have hpb:=h31 b hb
    rcases List.eq_nil_or_concat acc with h | ⟨c,z,h⟩
    ·subst h
     rw [z0o] at ha
     have:a=p:=by simpa using ha
     subst this; exact hpb
    ·subst h
     rw [List.concat_eq_append] at ha h2
     rw [z0c] at ha
     by_cases hz:z.1=p.1
     ·rw [if_pos hz] at ha
      rcases List.mem_append.mp ha with ha | ha
      ·exact h2 a (mal _ ha) b (mcm _ hb)
      ·have:a=(p.1,z.2+p.2):=by simpa using ha
       subst this; exact hpb
     ·rw [if_neg hz] at ha
      rcases List.mem_append.mp ha with ha | ha
      ·exact h2 a ha b (mcm _ hb)
      ·have:a=p:=by simpa using ha
       subst this; exact hpb
 exact key bs [] List.Pairwise.nil (by simp) h
theorem dsc_keys (bs:List (Lad × Int)):(dsc bs).Pairwise (fun a b=>a.1.lt b.1=false):=by
 refine (dsc_le bs).imp fun {a b} hab=>?_
 rw [pLt] at hab
 by_cases h:a.1=b.1
 ·rw [h]; exact lt_irrefl _
 ·rw [if_neg h] at hab; exact hab
theorem S_bth (l k x:Lad):S (bth l k) x=S l x+S k x:=by
 show sumAt (ofPs (jn (dsc (l.ps++k.ps)))).ps x=_
 rw [ps_ofPs,sumAt_jn,sumAt_perm (dsc_perm _),sumAt_append]
theorem ok_pos {l:Lad} (h:l.Ok B) (hB:0<=B) (x:Lad):S l x<=B:=by
 rcases S_cases h x with h1 | ⟨m,_,h1,h2,h3⟩ <;> omega
theorem bth_ok {l k:Lad} (hl:l.Ok B) (hk:k.Ok C) (hB:1<=B) (hC:1<=C):(bth l k).Ok (B+C):=by
 have hd:(jn (dsc (l.ps++k.ps))).Pairwise (fun p q=>q.1.lt p.1=true):=jn_desc (dsc_keys _)
 show (ofPs (jn (dsc (l.ps++k.ps)))).Ok (B+C)
 rw [ok_ps]
 refine ⟨fun p hp=>?_,hd⟩
 have hs:sumAt (jn (dsc (l.ps++k.ps))) p.1=p.2:=by
  have hnd:∀ (bs:List (Lad × Int)),bs.Pairwise (fun p q=>q.1.lt p.1=true)->∀ p ∈ bs,sumAt bs p.1=p.2:=by
   intro bs
   induction bs with
   | nil=>intro _ p hp; cases hp
   | cons q r ih =>
    intro hpw p hp
    obtain ⟨e,m⟩:=q
    obtain ⟨h1,h2⟩:=List.pairwise_cons.mp hpw
    rw [sumAt_cons]
    rcases List.mem_cons.mp hp with hp | hp
    ·subst hp
     rw [if_pos rfl,sumAt_zero fun q hq=>lt_ne (h1 q hq)]
     omega
    ·rw [if_neg (fun z=>lt_ne (h1 p hp) z.symm),ih h2 p hp]
     omega
  exact hnd _ hd p hp
 have hs2:p.2=S l p.1+S k p.1:=by
  rw [<- hs,sumAt_jn,sumAt_perm (dsc_perm _),sumAt_append]
 obtain ⟨q,hq,eq⟩:=z22 _ p hp
 have hq':=(dsc_perm _).mem_iff.mp hq
 have n1:=S_nonneg hl p.1
 have n2:=S_nonneg hk p.1
 have hlt:S l p.1 < B:=by rcases S_cases hl p.1 with h1 | ⟨m,_,h1,h2,h3⟩ <;> omega
 have hkt:S k p.1 < C:=by rcases S_cases hk p.1 with h1 | ⟨m,_,h1,h2,h3⟩ <;> omega
 have grow:∀ (e:Lad),e.Ok B->e.Ok (B+C):=fun e h=>h.mono (by omega)
 have grow2:∀ (e:Lad),e.Ok C->e.Ok (B+C):=fun e h=>h.mono (by omega)
 rcases List.mem_append.mp hq' with hq2 | hq2
 ·have o:=(ok_iff.mp hl).1 q hq2
  have sm:=S_mem hl hq2
  rw [eq] at sm o
  exact ⟨grow _ o.1,by omega,by omega⟩
 ·have o:=(ok_iff.mp hk).1 q hq2
  have sm:=S_mem hk hq2
  rw [eq] at sm o
  exact ⟨grow2 _ o.1,by omega,by omega⟩
/-- no exponent is above x -/
def cov (k x:Lad):Bool:=k.ps.all fun p=>!x.lt p.1
theorem cov_iff {k:Lad} (hk:k.Ok B) (x:Lad):cov k x=true ↔ ∀ y,x.lt y=true->S k y=0:=by
 unfold cov
 rw [List.all_eq_true]
 constructor
 ·intro h y hy
  refine S_none fun p hp z=>?_
  have:=h p hp
  rw [z,hy] at this
  cases this
 ·intro h p hp
  cases e:x.lt p.1 with
  | false=>rfl
  | true =>
   have h1:=h p.1 e
   rw [S_mem hk hp] at h1
   have:=(ok_iff.mp hk).1 p hp
   omega
theorem S_bhd {l k:Lad} (hk:k.Ok B) (x:Lad):S (bhd l k) x=(if cov k x=true then S l x else 0)+S k x:=by
 cases k with
 | nil =>
  rw [bhd_nil]
  show S l x=(if cov .nil x=true then S l x else 0)+sumAt [] x
  rw [sumAt_nil,if_pos (show cov .nil x=true from rfl)]; omega
 | cons e m r =>
  have hcov:cov (.cons e m r) x=!x.lt e:=by
   unfold cov
   show (!x.lt e&&r.ps.all fun p=>!x.lt p.1)=_
   cases h:x.lt e with
   | true=>rfl
   | false =>
    have:r.ps.all (fun p=>!x.lt p.1)=true:=by
     rw [List.all_eq_true]
     intro p hp
     rw [le_trans (le_of_lt (hk.2.2.2.2 p hp)) h]; rfl
    rw [this]; rfl
  rw [bhd_cons]
  show sumAt (ofPs _).ps x=_
  rw [ps_ofPs,sumAt_append,sumAt_cons,hcov]
  show sumAt (l.ps.filter fun p=>e.lt p.1) x+((if e=x then sumAt l.ps e+m else 0)+sumAt r.ps x)=(if (!x.lt e)=true then sumAt l.ps x else 0)+sumAt ((e,m)::r.ps) x
  rw [sumAt_cons]
  have hf:sumAt (l.ps.filter fun p=>e.lt p.1) x=if e.lt x=true then sumAt l.ps x else 0:=by
   unfold sumAt
   rw [List.filter_filter]
   by_cases h:e.lt x=true
   ·rw [if_pos h]
    congr 2
    refine List.filter_congr fun p hp=>?_
    by_cases hp2:p.1=x
    ·simp [hp2,h]
    ·simp [hp2]
   ·rw [if_neg h]
    have:l.ps.filter (fun p=>decide (p.1=x)&&e.lt p.1)=[]:=by
     rw [List.filter_eq_nil_iff]
     intro p hp hc
     rw [Bool.and_eq_true] at hc
     have h1:p.1=x:=of_decide_eq_true hc.1
     rw [h1] at hc
     exact h hc.2
    rw [this]; rfl
  rw [hf]
  by_cases hx:e=x
  ·subst hx
   rw [lt_irrefl]
   simp
   omega
  ·cases h1:e.lt x with
   | true =>
    rw [lt_asymm h1]
    simp [hx]
   | false =>
    rw [lt_tri e x hx h1]
    simp [hx]
theorem bhd_ok {l k:Lad} (hl:l.Ok B) (hk:k.Ok C) (hB:1<=B) (hC:1<=C):(bhd l k).Ok (B+C):=by
 cases k with
 | nil=>rw [bhd_nil]; exact hl.mono (by omega)
 | cons e m r =>
  rw [bhd_cons,ok_ps]
  obtain ⟨h1,h2,h3,h4,h5⟩:=hk
  obtain ⟨a1,a2⟩:=ok_iff.mp hl
  obtain ⟨b1,b2⟩:=ok_iff.mp h4
  have n1:=S_nonneg hl e
  have hlt:S l e < B:=by rcases S_cases hl e with g1 | ⟨m,_,g1,g2,g3⟩ <;> omega
  constructor
  ·intro p hp
   rcases List.mem_append.mp hp with hp | hp
   ·have:=a1 p (List.mem_filter.mp hp).1
    exact ⟨this.1.mono (by omega),this.2.1,by omega⟩
   ·rcases List.mem_cons.mp hp with hp | hp
    ·subst hp
     exact ⟨h1.mono (by omega),by show 1<=S l e+m; omega,by show S l e+m < B+C; omega⟩
    ·have:=b1 p hp
     exact ⟨this.1.mono (by omega),this.2.1,by omega⟩
  ·rw [List.pairwise_append,List.pairwise_cons]
   refine ⟨a2.sublist List.filter_sublist,⟨h5,b2⟩,fun a ha b hb=>?_⟩
   have ha':=(List.mem_filter.mp ha).2
   rcases List.mem_cons.mp hb with hb | hb
   ·subst hb; exact ha'
   ·exact lt_trans _ _ _ (h5 b hb) ha'
theorem bth_ge_bhd {a b:Lad} (ha:a.Ok B) (hb:b.Ok C) (hB:1<=B) (hC:1<=C):(bth a b).lt (bhd a b)=false:=by
 refine le_iff (bth_ok ha hb hB hC) (bhd_ok ha hb hB hC) ?_
 rintro ⟨x,h1,_⟩
 rw [S_bth,S_bhd hb] at h1
 have:=S_nonneg ha x
 split at h1 <;> omega
theorem cov_same {b c:Lad} (hb:b.Ok B) (hc:c.Ok C) {x:Lad} (h:∀ y,x.lt y=true->S b y=S c y):cov b x=cov c x:=by
 rw [Bool.eq_iff_iff,cov_iff hb,cov_iff hc]
 exact ⟨fun g y hy=>by rw [<- h y hy]; exact g y hy,fun g y hy=>by rw [h y hy]; exact g y hy⟩
theorem bhd_mono {a b c:Lad} {D:Int} (ha:a.Ok B) (hb:b.Ok C) (hc:c.Ok D) (hB:1<=B) (hC:1<=C) (hD:1<=D) (h:b.lt c=true):(bhd a b).lt (bhd a c)=true:=by
 rw [lt_iff (bhd_ok ha hb hB hC) (bhd_ok ha hc hB hD)]
 obtain ⟨x,h1,h2⟩:=lt_of hb hc h
 refine ⟨x,?_,fun y hy=>?_⟩
 ·rw [S_bhd hb,S_bhd hc,cov_same hb hc h2]; omega
 ·rw [S_bhd hb,S_bhd hc,cov_same hb hc (x:=y) (fun z hz=>h2 z (lt_trans _ _ _ hy hz)),h2 y hy]
theorem bth_mono {a b c:Lad} {D:Int} (ha:a.Ok B) (hb:b.Ok C) (hc:c.Ok D) (hB:1<=B) (hC:1<=C) (hD:1<=D) (h:b.lt c=true):(bth a b).lt (bth a c)=true:=by
 rw [lt_iff (bth_ok ha hb hB hC) (bth_ok ha hc hB hD)]
 obtain ⟨x,h1,h2⟩:=lt_of hb hc h
 exact ⟨x,by rw [S_bth,S_bth]; omega,fun y hy=>by rw [S_bth,S_bth,h2 y hy]⟩
theorem bhd_first {a b c:Lad} {D:Int} (ha:a.Ok B) (hb:b.Ok C) (hc:c.Ok D) (hB:1<=B) (hC:1<=C) (hD:1<=D) (h:b.lt c=true):(bhd c a).lt (bhd b a)=false:=by
 refine le_iff (bhd_ok hc ha hD hB) (bhd_ok hb ha hC hB) ?_
 rintro ⟨y,h1,h2⟩
 rw [S_bhd ha,S_bhd ha] at h1
 have hcov:cov a y=true:=by
  cases e:cov a y with
  | true=>rfl
  | false=>rw [e] at h1; simp at h1
 rw [hcov] at h1
 refine LT'.asymm (lt_of hb hc h) ⟨y,by simpa using h1,fun z hz=>?_⟩
 have h3:=h2 z hz
 have hz':cov a z=true:=by
  rw [cov_iff ha] at hcov ⊢
  exact fun u hu=>hcov u (lt_trans _ _ _ hz hu)
 rw [S_bhd ha,S_bhd ha,if_pos hz',if_pos hz'] at h3
 omega
theorem S_tms (l:Lad) (m:Int) (x:Lad):S (tms l m) x=S l x*m:=by
 unfold tms
 by_cases h:m=0
 ·rw [if_pos h,h]; show sumAt [] x=_; rw [sumAt_nil,Int.mul_zero]
 ·rw [if_neg h]
  show sumAt (ofPs _).ps x=_
  rw [ps_ofPs]
  exact sumAt_map (fun a=>a*m) (Int.zero_mul m) (fun a b=>Int.add_mul a b m) l.ps x
theorem tms_ok {l:Lad} {m:Int} (hl:l.Ok B) (hm:0<=m):(tms l m).Ok (B*m+B):=by
 unfold tms
 by_cases h:m=0
 ·rw [if_pos h]; trivial
 ·rw [if_neg h,ok_ps]
  obtain ⟨a1,a2⟩:=ok_iff.mp hl
  constructor
  ·intro p hp
   obtain ⟨q,hq,rfl⟩:=List.mem_map.mp hp
   obtain ⟨g1,g2,g3⟩:=a1 q hq
   have hB:0<=B:=by omega
   have b1:q.2*m<=B*m:=Int.mul_le_mul_of_nonneg_right (by omega) hm
   have b2:1*1<=q.2*m:=Int.mul_le_mul g2 (by omega) (by omega) (by omega)
   have b3:0<=B*m:=Int.mul_nonneg hB hm
   exact ⟨g1.mono (by omega),by show 1<=q.2*m; omega,by show q.2*m < B*m+B; omega⟩
  ·rw [List.pairwise_map]
   exact a2
end
end Lad
namespace Lad
section
variable {B C:Int}
theorem nil_le (k:Lad):k ≠ .nil->Lad.lt .nil k=true:=by
 cases k with
 | nil=>intro h; exact absurd rfl h
 | cons e m r=>intro _; exact lt_nil_cons e m r
theorem bhd_ge {l k:Lad} (hl:l.Ok B) (hk:k.Ok C) (hB:1<=B) (hC:1<=C):(bhd l k).lt l=false:=by
 by_cases h:k=.nil
 ·subst h; rw [bhd_nil]; exact lt_irrefl _
 ·have:=bhd_mono (a:=l) (b:=.nil) (c:=k) (C:=1) hl trivial hk hB (by decide) hC (nil_le k h)
  rw [bhd_nil] at this
  exact lt_asymm this
end
end Lad
/-- a class of errors of the program's own -/
structure Own (K:PySem.W.Frag) (mg:Str->Option Value) (x:Str) (C:Addr):Prop where
 gC:mg x=some (.ref C)
 q:PySem.W.excIn K C He.veBase "ValueError.__new__"=true
 k:PySem.W.keepIn K (.ref C)=true
 s:PySem.W.subIn K (.ref C) (.type "BaseException")=some true
 t:PySem.W.typeIn K (.ref C)=some (.type "type")
/-- as Got,for a def that may raise -/
structure GotX (P:Program) (w:World) (K:PySem.W.Frag) (mg:Str->Option Value) (base:Heap) (x:Str) (ps:List Str) (k:Nat) (sp:Sp):Prop where
 ex:∃ (f:Addr) (fd:FuncData),FnOk P w K mg base (L2.CX P w) k f fd ps sp/\PySem.W.keepIn K (.ref f)=true/\Binds K fd ps []/\mg x=some (.ref f)
section
variable {X:Cx} {x:Str} {ps:List Str} {k:Nat} {sp:Sp} {e:Expr} {es:List Expr} {t:TA} {p pos:Pos}
theorem z2v (G:GotX X.prog X.w X.K X.mg X.base x ps k sp) (hr:Room k X.A) (hg:Gl X x) (ha:PA X (e::es) t) (hdb:(x == ("__debug__":Str))=false:=by decide) (he:starEach (e::es) X.env=(false,eval e X.env)::starEach es X.env:=by rfl) (hpl:(backTo pos (starEach es X.env)).any (·.1)=false:=by rfl) :
  PE X (.Call (.Name x p) (e::es) [] pos) (tCall sp [] E0 t):=by
 obtain ⟨f,fd,h1,h2,h3,h4⟩:=G.ex
 exact pe_call h1 hr hg h4 h2 h3 .nil passL ha hdb he hpl
theorem z34 {W:WX} (G:GotX X.prog X.w X.K X.mg X.base x ps k sp) (hr:Room k X.A) (hg:Gl X x) (tk:Takes X W) (ha:PA X (e::es) t) (hdb:(x == ("__debug__":Str))=false:=by decide) (he:starEach (e::es) X.env=(false,eval e X.env)::starEach es X.env:=by rfl) (hpl:(backTo pos (starEach es X.env)).any (·.1)=false:=by rfl) :
  PE X (.Call (.Name x p) (e::es) [] pos) (tCallS sp (WE W) t):=by
 obtain ⟨f,fd,h1,h2,h3,h4⟩:=G.ex
 exact pe_callS h1 hr hg h4 h2 h3 (fun σ=>passAt tk σ) ha hdb he hpl
end
abbrev AlE:Type:=He.AlD × Bool
def obsE (n:Nat) (fa:List He.Fa) (fn:List He.DefD) (ex:PySem.W.Frag->Bool) (g:Addr->Option Obj):AlE:=(He.obsD fa fn (He.frG g (He.asD g n)),ex (He.frG g (He.asD g n)))
def zfj (n:Nat) (fa:List He.Fa) (fn:List He.DefD) (ex:PySem.W.Frag->Bool):PySem.W.Hook where
 α:=AlE
 obs:=fun s=>obsE n fa fn ex s.heap.get?
 val:=fun _=>(He.valD fn,true)
 says:=fun _ h=>∃ K:PySem.W.Frag,K.In h/\He.SaysD fa fn K/\ex K=true
 of:=fun _ _ e=>⟨_,He.frG_in,congrArg (fun z:AlE=>z.1) e,congrArg (fun z:AlE=>z.2) e⟩
 keeps:=fun _ _ _ ⟨K,hK,c⟩ k=>⟨K,PySem.W.Frag.In.keeps hK k,c⟩
theorem zfz {n:Nat} {fa:List He.Fa} {fn:List He.DefD} {ex:PySem.W.Frag->Bool} {g:Addr->Option Obj} {s:Shared} (h:∀ a,g a=s.heap.get? a):obsE n fa fn ex g=(zfj n fa fn ex).obs s:=by
 have e:g=s.heap.get?:=funext h
 rw [e] <;> rfl
/-- what isinstance wants of an own class of errors,as a test -/
def za6 (K:PySem.W.Frag) (D:Addr):Bool :=
 He.eqO (PySem.W.findIn K (.ref D) "__getattribute__") (some (some (.builtin "BaseException.__getattribute__")))&&(He.eqO (PySem.W.findIn K (.ref D) "__getattr__") (some none)&&(decide (PySem.W.subIn K (.ref D) (.type "BaseException")=some true)&&(PySem.W.hasDictIn K D&&(He.eqO (PySem.W.findIn K (.ref D) "__class__") (some (some (.builtin "object.__class__"))) &&
 (He.eqO (PySem.W.specialIn K (.builtin "object.__class__") "__get__") (some (some (.builtin "getset_descriptor.__get__")))&&(decide (PySem.W.takesIn K (.builtin "object.__class__")=some true)&&decide (PySem.W.mroIn K D (.type "object")=some true)))))))
theorem zcd {K:PySem.W.Frag} {D:Addr} (h:za6 K D=true):ExcC K D:=by
 obtain ⟨h1,h⟩:=He.ba h
 obtain ⟨h2,h⟩:=He.ba h
 obtain ⟨h3,h⟩:=He.ba h
 obtain ⟨h4,h⟩:=He.ba h
 obtain ⟨h5,h⟩:=He.ba h
 obtain ⟨h6,h⟩:=He.ba h
 obtain ⟨h7,h8⟩:=He.ba h
 exact ⟨He.eqO_ok h1,He.eqO_ok h2,of_decide_eq_true h3,h4,He.eqO_ok h5,He.eqO_ok h6,of_decide_eq_true h7,of_decide_eq_true h8⟩
section
variable {J:It} {n:Nat} {G:Hp->Prop} {Y:Nat->Hp->V->Hp->Prop}
theorem lcG (w:Walk J n G Y) {H0:Hp} {Qd:Hp->Prop} {body:(Hp->Prop)->V->Hp->Prop} (Pv:Nat->Hp->Prop) (h0:Pv 0 H0) (hG:∀ i H,i<=n->Pv i H->G H)
  (hs:∀ i x H H',i < n->Pv i H->Y i H x H'->body (Pv (i+1)) x H') (hd:∀ H,Pv n H->Qd H) :
  ∃ W:Nat->Nat->Hp->Prop,(∃ m,W 0 m H0)/\∀ i m H,W i m H ->
   (J.stop i H/\Qd H)\/(J.go i H/\∃ Nx:Hp->Prop,(∀ H',Nx H'->∃ m',m' < m/\W (i+1) m' H')/\∀ x H',J.yld i H x H'->body Nx x H'):=by
 refine ⟨fun i m H=>m=n-i/\i<=n/\Pv i H,⟨n,by simp,Nat.zero_le _,h0⟩,?_⟩
 rintro i m H ⟨rfl,hi,p⟩
 have q:=hG i H hi p
 by_cases hlt:i < n
 ·exact .inr ⟨w.goes i H hlt q,Pv (i+1),fun H' p'=>⟨n-(i+1),by omega,rfl,hlt,p'⟩,fun x H' y=>hs i x H H' hlt p (w.yields i H x H' hlt q y)⟩
 ·have e:i=n:=by omega
  subst e
  exact .inl ⟨w.stops H q,hd H p⟩
end
section
variable {prog:Program} {w:World} {A:Around} {E:Value->Shared->Prop} {s:Shared} {β:Type} {vs:List Value} {bs:List β} {enc:β->PyData} {R:Value->β->Prop}
/-- sorted(t,..),t a tuple of data that are alike -/
theorem z9c {t:Addr} {kw:List (Str × Value)} {b:Bool} {Q:Value->Shared->Prop} (hkw:∀ a,Builtin.«list.sort» ⟨[.ref a],kw⟩=Builtin.«list.sort» ⟨[.ref a],[(Str.ofString "reverse",.bool b)]⟩) (ha1:argsOk "sorted" ⟨[.ref t],kw⟩) (ha2:∀ x,argsOk "list.sort" ⟨[.ref x],kw⟩)
  (ht:PlainL s.heap t vs.toArray) (e:EachIs R vs bs) (er:EachIs (fun v b=>∃ as,Reads s.heap v (enc b) as) vs bs) (hal:AllAlike (bs.map enc)) (hk:Sortable (bs.map enc)) (hL:bs.length<=sizeLine)
  (hu:∀ b,b ∈ bs->A.units+2+(enc b).depth < cLine)
  (h:∀ (out:List Value) (h' h2:Heap) (n:Nat),(∀ b o,s.heap.get? b=some o->h'.get? b=some o)->(∀ b o,h'.get? b=some o->h2.get? b=some o)->h2.get? h'.objs.size=some (seqObj "list" out.toArray n)->out.length=bs.length->EachIs R out (bs.mergeSort (dataLe b enc))->Q (.ref h'.objs.size) { s with heap:=h2 }) :
  wpAny (model prog w) A (call (.builtin "sorted") [.ref t] kw) Q E s:=by
 have hlen:vs.length<=sizeLine:=by rw [e.length]; exact hL
 obtain ⟨o,n0,ho,hc,_,hd⟩:=id ht
 refine call_function_entry_kw kind_sorted plain_sorted entry_sorted ha1 ?_
 unfold Builtin.«sorted»
 refine wpAny_bind (m:=checkCount "sorted" 1 1 _) (wpAny_pure ?_)
 refine wpAny_bind (wpAny_collect_seq t (.inl rfl) ho hc hd (fun h' hk'=>?_) (by rw [List.size_toArray]; exact hlen))
 refine wpAny_bind (wpAny_newList ?_ hlen)
 show wpAny _ _ _ _ _ { s with heap:=h'.push (seqObj "list" vs.toArray 0) }
 have hat:(h'.push (seqObj "list" vs.toArray 0)).get? h'.objs.size=some (seqObj "list" vs.toArray 0):=Heap.get?_push_size _ rfl
 refine wpAny_bind (wpAny_holding (wpAny_call_entry_kw slot_list_sort ⟨_,hat,rfl⟩ entry_list_sort ?body (ha2 _)))
 case body =>
  rw [hkw]
  have old:∀ b o,h'.get? b=some o->(sortingHeap (h'.push (seqObj "list" vs.toArray 0)) h'.objs.size vs).get? b=some o:=fun b o q=>sortingHeap_old (Nat.ne_of_lt (Heap.lt_size q)) (Heap.get?_push_of_some _ q)
  have er':EachIs (fun v b=>∃ as,Reads (sortingHeap (h'.push (seqObj "list" vs.toArray 0)) h'.objs.size vs) v (enc b) as) vs bs:=er.mono fun _ _ ⟨as,r⟩=>⟨as,PyProof.Rows.Reads.keeps (fun b o q=>old b o (hk' b o q)) r⟩
  refine list_sort_rev_vals (s:={ s with heap:=h'.push (seqObj "list" vs.toArray 0) }) (κ:=dataKind (sortingHeap (h'.push (seqObj "list" vs.toArray 0)) h'.objs.size vs) (bs.map enc)) hat (SortsAt.data (s:={ s with heap:=sortingHeap (h'.push (seqObj "list" vs.toArray 0)) h'.objs.size vs }) (each_map (R:=fun v d=>∃ as,Reads (sortingHeap (h'.push (seqObj "list" vs.toArray 0)) h'.objs.size vs) v d as) enc er') hal hk (bound_map hu)) hlen ?_
  refine ⟨_,rfl,wpAny_pure ⟨_,rfl,?_⟩⟩
  obtain ⟨n2,hn2⟩:=sortedHeap_at (out:=(sortVals (dataKind (sortingHeap (h'.push (seqObj "list" vs.toArray 0)) h'.objs.size vs) (bs.map enc)) b vs vs).toArray) hat
  refine h _ h' _ n2 hk' (fun b o q=>?_) hn2 (by rw [sortVals_length b rfl]; exact e.length) (sortVals_data b e er' hal)
  rw [sortedHeap_old (Nat.ne_of_lt (Heap.lt_size q)) (by rw [size_push']; exact Nat.lt_succ_of_lt (Heap.lt_size q))]
  exact Heap.get?_push_of_some _ q
end
/-- sorted(t),sorted(t,reverse=b) -/
def z6h (K:PySem.W.Frag) {β:Type} (enc:β->PyData) (b:Bool) (vs:List V) (H:Hp) (Q:VK):Prop:=∃ (a:Addr) (xs:List V) (bs:List β),vs=[V.ref a]/\SqL K H a xs/\Bears K H enc xs bs/\AllAlike (bs.map enc)/\Sortable (bs.map enc)/\bs.length<=10000/\(∀ b ∈ bs,(enc b).depth<=100) /\
 ∀ (p:Addr) (ys:List V),H p=none->Bears K H enc ys (bs.mergeSort (dataLe b enc))->Q (.ref p) (upd H p (.lst ys))
section
variable {X:Cx}
theorem z61 {β:Type} {enc:β->PyData} {b:Bool} {kw:List (Str × Value)} (hu:X.A.units+110 < cLine) (hkw:∀ a,Builtin.«list.sort» ⟨[.ref a],kw⟩=Builtin.«list.sort» ⟨[.ref a],[(Str.ofString "reverse",.bool b)]⟩) (ha1:∀ t,argsOk "sorted" ⟨[.ref t],kw⟩) (ha2:∀ x,argsOk "list.sort" ⟨[.ref x],kw⟩)
  {pins:List (Addr × Obj)} {s:Shared} {σ:L2.St} {H:Hp} {vs:List V} {us:List Value} {Q:VK} (I:Inv X pins σ H s) (r:Vals vs us) (h:z6h X.K enc b vs H Q):wpAny (model X.prog X.w) X.A (call (.builtin "sorted") us kw) (EP X pins σ Q) X.xe s:=by
 obtain ⟨a,xs,bs,rfl,hs,hb,hal,hsr,hl,hd,q⟩:=h
 obtain ⟨its,rv,hli,_⟩:=I.list hs
 rw [Vals.ref1 r]
 obtain ⟨e1,e2⟩:=z5c I hb rv
 refine z9c (vs:=its) (bs:=bs) (enc:=enc) (R:=fun u b=>∃ v,RelV v u/\Dp X.K H v (enc b)) hkw (ha1 _) ha2 hli e1 e2 hal hsr (by rw [sizeLine_eq]; omega) (fun b m=>by have:=hd b m; omega) fun out h' h2 n k1 k2 hat ho h1=>?_
 obtain ⟨ys,g2,g3⟩:=z7g h1
 have I':Inv X pins σ H { s with heap:=h' }:=I.kept (t':=s.toks) k1
 have hlen:ys.length<=sizeLine:=by rw [g2.length,ho,sizeLine_eq]; omega
 exact ⟨.ref _,upd H h'.objs.size (.lst ys),I'.laid (t':=s.toks) (fun b o e=>k2 b o e) (Nat.le_refl _) ⟨hlen,out,n,g2,hat⟩,rfl,q _ ys (I'.hok.fresh (Nat.le_refl _)) g3⟩
theorem zaa {β:Type} (enc:β->PyData) (hu:X.A.units+110 < cLine):CallR X (.builtin "sorted") (z6h X.K enc false):=by
 intro pins s σ H vs us Q I r h
 exact z61 (kw:=[]) hu plain_is_rev (fun _=>args_sorted1 _) (fun _=>args_list_sort _) I r h
theorem z97 {β:Type} (enc:β->PyData) {b:Bool} (hu:X.A.units+110 < cLine):CallRK X (.builtin "sorted") [Str.ofString "reverse"] (fun vs zs H Q=>zs=[.bl b]/\z6h X.K enc b vs H Q):=by
 intro pins s σ H vs zs us ws Q I r rz h
 obtain ⟨rfl,h⟩:=h
 obtain ⟨w1,rfl,e1⟩:=vals1 rz
 obtain rfl:w1=Value.bool b:=e1
 exact z61 hu (fun _=>rfl) (fun _=>args_sorted_rev _ _) (fun _=>args_list_sort_rev _ _) I r h
end
namespace Lad
/-- all of some ladders together -/
def bths (ls:List Lad):Lad:=ofPs (jn (dsc (ls.flatMap ps)))
theorem bths_two (l k:Lad):bths [l,k]=bth l k:=by simp [bths,bth,List.flatMap]
end Lad
theorem Got.imp {P:Program} {w:World} {K:PySem.W.Frag} {mg:Str->Option Value} {base:Heap} {x:Str} {ps:List Str} {k:Nat} {sp sp':Sp} (G:Got P w K mg base x ps k sp) (h:∀ vs H Q E,sp' vs H Q E->sp vs H Q E):Got P w K mg base x ps k sp':=by
 obtain ⟨f,fd,h1,h2⟩:=G.ex
 exact ⟨f,fd,h1.imp h,h2⟩
def z55 (K:PySem.W.Frag):Sp:=fun vs H Q _=>∃ (v:V) (l:Lad),vs=[v]/\LA K H v l/\∀ (x:V) (H':Hp),SB [] H H'->LA K H' x (.cons l 1 .nil)->Q x H'
def z71 (K:PySem.W.Frag):Sp:=fun vs H Q _=>∃ (a:Addr) (xs:List V) (ls:List Lad),vs=[.ref a]/\SqL K H a xs/\Bears K H Lad.enc xs ls/\(∀ l ∈ ls,l.deep<=25)/\(ls.flatMap Lad.ps).length<=900/\∀ (x:V) (H':Hp),SB [] H H'->LA K H' x (Lad.bths ls)->Q x H'
namespace Lad
section
variable {B C D:Int}
abbrev uno:Lad:=.cons .nil 1 .nil
theorem num_one:Lad.num 1=uno:=if_neg (by decide)
theorem uno_ok:uno.Ok 2:=⟨trivial,by decide,by decide,trivial,by simp [ps]⟩
theorem S_uno (e x:Lad):S (.cons e 1 .nil) x=if e=x then 1 else 0:=by
 show sumAt ((e,1)::[]) x=_
 rw [sumAt_cons,sumAt_nil,Int.add_zero]
theorem S_suc (e x:Lad):S (bhd e uno) x=S e x+if Lad.nil=x then 1 else 0:=by
 rw [S_bhd uno_ok,S_uno]
 have:cov uno x=true:=by simp [cov,ps,lt_nil_r]
 rw [if_pos this]
theorem suc_lt {e:Lad} (he:e.Ok B) (hB:1<=B):e.lt (bhd e uno)=true:=by
 rw [lt_iff he (bhd_ok he uno_ok hB (by decide))]
 refine ⟨.nil,?_,fun y hy=>?_⟩
 ·rw [S_suc,if_pos rfl]; omega
 ·rw [S_suc,if_neg (lt_ne hy),Int.add_zero]
theorem suc_least {e y:Lad} (he:e.Ok B) (hy:y.Ok C) (hB:1<=B) (h:e.lt y=true):bhd e uno=y\/(bhd e uno).lt y=true:=by
 have ho:=bhd_ok he uno_ok hB (by decide)
 obtain ⟨x,hx,hup⟩:=(lt_iff he hy).mp h
 by_cases hn:x=.nil
 ·subst hn
  have hz:∀ z,Lad.nil ≠ z->S e z=S y z:=fun z hz=>hup z (nil_le z fun q=>hz q.symm)
  by_cases hq:S e .nil+1=S y .nil
  ·left
   refine ext ho hy fun z=>?_
   rw [S_suc]
   by_cases z0:Lad.nil=z
   ·subst z0; rw [if_pos rfl]; exact hq
   ·rw [if_neg z0,Int.add_zero]; exact hz z z0
  ·right
   rw [lt_iff ho hy]
   refine ⟨.nil,?_,fun z hz'=>?_⟩
   ·rw [S_suc,if_pos rfl]; omega
   ·rw [S_suc,if_neg (lt_ne hz'),Int.add_zero]; exact hz z (lt_ne hz')
 ·right
  rw [lt_iff ho hy]
  refine ⟨x,?_,fun z hz=>?_⟩
  ·rw [S_suc,if_neg (fun h=>hn h.symm),Int.add_zero]; exact hx
  ·have:Lad.nil ≠ z:=fun h=>by subst h; rw [lt_nil_r] at hz; cases hz
   rw [S_suc,if_neg this,Int.add_zero]; exact hup z hz
theorem sumAt_filter (e x:Lad):∀ bs:List (Lad × Int),sumAt (bs.filter fun p=>e.lt p.1) x=if e.lt x=true then sumAt bs x else 0
 | []=>by simp [sumAt_nil]
 | (a,m)::r=>by
  have ih:=sumAt_filter e x r
  rw [List.filter_cons]
  by_cases h:e.lt a=true
  ·rw [if_pos h,sumAt_cons,sumAt_cons,ih]
   by_cases hx:e.lt x=true
   ·rw [if_pos hx,if_pos hx]
   ·have:a ≠ x:=fun z=>hx (z ▸ h)
    rw [if_neg hx,if_neg hx,if_neg this]; rfl
  ·rw [if_neg h,ih,sumAt_cons]
   by_cases hx:e.lt x=true
   ·have:a ≠ x:=fun z=>h (z ▸ hx)
    rw [if_pos hx,if_pos hx,if_neg this,Int.zero_add]
   ·rw [if_neg hx,if_neg hx]
theorem filter_ok {l:Lad} (h:l.Ok B) (g:Lad × Int->Bool):(ofPs (l.ps.filter g)).Ok B:=by
 have:=ok_iff.mp h
 rw [ok_ps]
 exact ⟨fun p hp=>this.1 p (List.mem_filter.mp hp).1,this.2.filter _⟩
theorem filter_parts (l:Lad) (g:Lad × Int->Bool):(ofPs (l.ps.filter g)).parts<=l.parts:=by
 have h:=tot_filter g l.ps
 rw [parts_ofPs]
 have h2:tot l.ps=l.parts:=by rw [<- parts_ofPs,ofPs_ps]
 omega
theorem filter_deep {n:Nat} {l:Lad} (g:Lad × Int->Bool) (h:l.deep<=n):(ofPs (l.ps.filter g)).deep<=n :=
 deep_ofPs fun b hb=>Nat.lt_of_lt_of_le (mem_deep l b (List.mem_filter.mp hb).1) h
def abv (l:Lad):Lad->Lad
 | .nil=>bth l uno
 | .cons e _ _=>bth (ofPs (l.ps.filter fun p=>e.lt p.1)) (.cons (bhd e uno) 1 .nil)
theorem pow_ok {e:Lad} (h:e.Ok B) (hB:2<=B):(Lad.cons e 1 .nil).Ok B:=⟨h,by decide,by omega,trivial,by simp [ps]⟩
theorem abv_ok {l k:Lad} (hl:l.Ok B) (hk:k.Ok C) (hB:1<=B) (hC:1<=C):(abv l k).Ok (B+(C+2)):=by
 cases k with
 | nil=>exact (bth_ok hl uno_ok hB (by decide)).mono (by omega)
 | cons e m r=>exact bth_ok (filter_ok hl _) (pow_ok (bhd_ok hk.1 uno_ok hC (by decide)) (by omega)) hB (by omega)
theorem abv_parts (l k:Lad):(abv l k).parts<=l.parts+k.parts+2:=by
 cases k with
 | nil=>have:=bth_parts l uno; show (bth l uno).parts<=_; have h1:uno.parts=1:=rfl; omega
 | cons e m r =>
  have h1:=bth_parts (ofPs (l.ps.filter fun p=>e.lt p.1)) (.cons (bhd e uno) 1 .nil)
  have h2:=filter_parts l fun p=>e.lt p.1
  have h3:=bhd_parts e uno
  have h4:(Lad.cons (bhd e uno) 1 .nil).parts=1+(bhd e uno).parts+0:=rfl
  have h5:(Lad.cons e m r).parts=1+e.parts+r.parts:=rfl
  have h6:uno.parts=1:=rfl
  show (bth _ _).parts<=_
  omega
theorem abv_deep {n:Nat} {l k:Lad} (hl:l.deep<=n) (hk:k.deep<=n) (hn:2<=n):(abv l k).deep<=n:=by
 cases k with
 | nil=>exact bth_deep hl (by show 1<=n; omega)
 | cons e m r =>
  refine bth_deep (filter_deep _ hl) ?_
  have h1:1+e.deep<=n:=Nat.le_trans (Nat.le_max_left _ _) hk
  have h2:=bhd_deep (n:=n-1) (l:=e) (k:=uno) (by omega) (by show 1<=n-1; omega)
  show max (1+(bhd e uno).deep) 0<=n
  omega
theorem S_abv (l e:Lad) (m:Int) (r x:Lad):S (abv l (.cons e m r)) x=(if e.lt x=true then S l x else 0)+if bhd e uno=x then 1 else 0:=by
 show S (bth _ _) x=_
 rw [S_bth,S_uno]
 show sumAt (ofPs _).ps x+_=_
 rw [ps_ofPs,sumAt_filter]
theorem btm_ok {l k:Lad} {n:Int} (hl:l.Ok B) (hk:k.Ok C) (hB:1<=B) (hC:1<=C) (hn:0<=n):(bth l (tms k n)).Ok (B+(C*n+C)):=by
 have:0<=C*n:=Int.mul_nonneg (by omega) hn
 exact bth_ok hl (tms_ok hk hn) hB (by omega)
theorem S_btm (l k x:Lad) (n:Int):S (bth l (tms k n)) x=S l x+S k x*n:=by rw [S_bth,S_tms]
theorem abv_gt {l k:Lad} {n:Int} (hl:l.Ok B) (hk:k.Ok C) (hB:1<=B) (hC:1<=C) (hn:0<=n):(bth l (tms k n)).lt (abv l k)=true:=by
 rw [lt_iff (btm_ok hl hk hB hC hn) (abv_ok hl hk hB hC)]
 cases k with
 | nil =>
  have e0:∀ x,S Lad.nil x=0:=fun x=>rfl
  refine ⟨.nil,?_,fun y hy=>?_⟩
  ·rw [S_btm]
   show _ < S (bth l uno) .nil
   rw [S_bth,S_uno,if_pos rfl,e0,Int.zero_mul]; omega
  ·rw [S_btm]
   show _=S (bth l uno) y
   rw [S_bth,S_uno,if_neg (lt_ne hy),e0,Int.zero_mul]
 | cons e m r =>
  have hes:=suc_lt hk.1 hC
  refine ⟨bhd e uno,?_,fun y hy=>?_⟩
  ·rw [S_btm,S_abv,if_pos hes,if_pos rfl,S_above hk hes,Int.zero_mul]; omega
  ·have hy2:=lt_trans _ _ _ hes hy
   rw [S_btm,S_abv,if_pos hy2,if_neg (lt_ne hy),S_above hk hy2,Int.zero_mul]
/-- so many are enough to reach a lesser ladder -/
def eno:Lad->Lad->Int
 | .nil,_=>0
 | .cons e _ _,t=>1+S t e
theorem eno_nonneg {k t:Lad} (ht:t.Ok D):0<=eno k t:=by
 cases k with
 | nil=>exact Int.le_refl _
 | cons e m r=>have:=S_nonneg ht e; show 0<=1+S t e; omega
theorem abv_least {l k t:Lad} (hl:l.Ok B) (hk:k.Ok C) (ht:t.Ok D) (hB:1<=B) (hC:1<=C) (h:t.lt (abv l k)=true):(bth l (tms k (eno k t))).lt t=false:=by
 cases k with
 | nil =>
  rw [show eno .nil t=0 from rfl,show tms .nil 0=.nil from if_pos rfl,bth_nil hl]
  cases hlt:l.lt t with
  | false=>rfl
  | true =>
   exfalso
   have e:abv l .nil=bhd l uno:=ext (bth_ok hl uno_ok hB (by decide)) (bhd_ok hl uno_ok hB (by decide)) fun x=>by
    show S (bth l uno) x=_
    rw [S_bth,S_suc,S_uno]
   rw [e] at h
   rcases suc_least hl ht hB hlt with h1 | h1
   ·rw [h1,lt_irrefl] at h; cases h
   ·rw [lt_asymm h1] at h; cases h
 | cons e m r =>
  have he:e.Ok C:=hk.1
  have hN:=eno_nonneg (k:=.cons e m r) ht
  have hU:=btm_ok (n:=eno (.cons e m r) t) hl hk hB hC hN
  have hes:e.lt (bhd e uno)=true:=suc_lt he hC
  have Ua:∀ y,e.lt y=true->S (bth l (tms (.cons e m r) (eno (.cons e m r) t))) y=S l y:=fun y hy=>by
   rw [S_btm,S_above hk hy,Int.zero_mul,Int.add_zero]
  refine le_iff hU ht fun hlt=>?_
  obtain ⟨x,hx,hup⟩:=(lt_iff ht (abv_ok hl hk hB hC)).mp h
  have up2:∀ y,(x=y\/x.lt y=true)->(bhd e uno).lt y=true->x.lt y=true->S t y=S (bth l (tms (.cons e m r) (eno (.cons e m r) t))) y:=fun y _ hsy hxy=>by
   have h2:=lt_trans _ _ _ hes hsy
   rw [hup y hxy,S_abv,if_pos h2,if_neg (lt_ne hsy),Int.add_zero,Ua y h2]
  by_cases hxs:bhd e uno=x
  ·subst hxs
   rw [S_abv,if_pos hes,if_pos rfl] at hx
   by_cases hq:S t (bhd e uno) < S l (bhd e uno)
   ·exact LT'.asymm hlt ⟨bhd e uno,by rw [Ua _ hes]; exact hq,fun y hy=>up2 y (.inr hy) hy hy⟩
   ·refine LT'.asymm hlt ⟨e,?_,fun y hy=>?_⟩
    ·rw [S_btm,S_top hk]
     have h1:=S_nonneg hl e
     have h2:=S_nonneg ht e
     have h3:=hk.2.1
     show S t e < S l e+m*(1+S t e)
     have h4:1*(1+S t e)<=m*(1+S t e):=Int.mul_le_mul_of_nonneg_right h3 (by omega)
     omega
    ·by_cases hys:bhd e uno=y
     ·subst hys
      rw [Ua _ hes]; omega
     ·have okc:(∃ E,y.Ok E)->S t y=S (bth l (tms (.cons e m r) (eno (.cons e m r) t))) y:=fun ⟨E,hyo⟩=>by
       rcases suc_least he hyo hC hy with h1 | h1
       ·exact absurd h1 hys
       ·exact up2 y (.inr h1) h1 h1
      rcases S_cases ht y with ⟨z,_⟩ | ⟨mm,hm,_⟩
      ·rcases S_cases hl y with ⟨z2,_⟩ | ⟨mm,hm,_⟩
       ·rw [Ua y hy,z,z2]
       ·exact okc ⟨_,((ok_iff.mp hl).1 _ hm).1⟩
      ·exact okc ⟨_,((ok_iff.mp ht).1 _ hm).1⟩
  ·by_cases hsx:(bhd e uno).lt x=true
   ·have hex:=lt_trans _ _ _ hes hsx
    rw [S_abv,if_pos hex,if_neg hxs,Int.add_zero] at hx
    exact LT'.asymm hlt ⟨x,by rw [Ua x hex]; exact hx,fun y hy=>up2 y (.inr hy) (lt_trans _ _ _ hsx hy) hy⟩
   ·have hx0:=S_nonneg ht x
    rw [S_abv,if_neg hxs,Int.add_zero] at hx
    by_cases hex:e.lt x=true
    ·rw [if_pos hex] at hx
     rcases S_cases hl x with ⟨z,_⟩ | ⟨mm,hm,_⟩
     ·omega
     ·rcases suc_least he ((ok_iff.mp hl).1 _ hm).1 hC hex with h1 | h1
      ·exact hxs h1
      ·exact hsx h1
    ·rw [if_neg hex] at hx; omega
def spd:Lad->Lad->Lad
 | .cons e m r,.nil=>.cons e m r
 | .nil,.nil=>.nil
 | .nil,k=>k
 | .cons e _ _,k=>.cons (bhd e k) 1 .nil
end
end Lad
def z6c (K:PySem.W.Frag):Sp:=fun vs H Q _=>∃ (v u:V) (e:Lad) (m:Int) (r k:Lad),vs=[v,u]/\LA K H v (.cons e m r)/\LA K H u k/\(Lad.cons e m r).deep<=30/\k.deep<=30/\(Lad.cons e m r).parts<=900/\k.parts<=900/\∀ (x:V) (H':Hp),SB [] H H'->LA K H' x (Lad.spd (.cons e m r) k)->Q x H'
def z7k (K:PySem.W.Frag):Sp:=fun vs H Q _=>∃ (v u:V) (l k:Lad),vs=[v,u]/\LA K H v l/\LA K H u k/\l.deep<=24/\k.deep<=24/\l.parts<=390/\k.parts<=390/\∀ (x:V) (H':Hp),SB [] H H'->LA K H' x (l.abv k)->Q x H'
theorem z14 (x:PyData):dataLt x x=false:=lex_irrefl (O:=itemOrd) _
theorem z3d {x y z:PyData} (h:dataLt x y=true) (h2:dataLt y z=true):dataLt x z=true:=lex_trans (O:=itemOrd) _ _ _ h h2
theorem zc1 {x y:PyData} (al:alike x y=true) (h:dataLt x y=false) (h2:dataLt y x=false):PyData.eqv x y=true:=by
 have e:keyToks x=keyToks y:=lex_total (O:=itemOrd) _ _ h h2
 cases hq:PyData.eqv x y with
 | true=>rfl
 | false =>
  have t:=(toks_eqv x y al).2 hq [.inl 0] [.inl 1]
  rw [e] at t
  have t2:PyProof.Rows.lexLt itemOrd (keyToks y++[.inl 0]) (keyToks y++[.inl 1])=PyProof.Rows.lexLt itemOrd [.inl 0] [.inl 1]:=lex_pre _ _ _
  have t3:PyProof.Rows.lexLt itemOrd (keyToks y) (keyToks y)=false:=lex_irrefl (O:=itemOrd) _
  rw [t2,t3,lex_one] at t
  revert t
  decide
theorem z4b {x y:PyData} (h:dataLt x y=true):dataLt y x=false:=by
 cases e:dataLt y x with
 | false=>rfl
 | true=>have:=z3d h e; rw [z14] at this; cases this
/-- things whose data are alike and like only where they are the same -/
class Orderly {γ:Type} [DecidableEq γ] (enc:γ->PyData):Prop where
 al:∀ a b,alike (enc a) (enc b)=true
 eq:∀ a b,PyData.eqv (enc a) (enc b)=decide (a=b)
section
variable {γ:Type} [DecidableEq γ] {enc:γ->PyData} [O:Orderly enc]
theorem z6r {a b:γ} (hne:a ≠ b) (h:dataLt (enc a) (enc b)=false):dataLt (enc b) (enc a)=true:=by
 cases e:dataLt (enc b) (enc a) with
 | true=>rfl
 | false =>
  have:=zc1 (O.al a b) h e
  rw [O.eq] at this
  exact absurd (of_decide_eq_true this) hne
theorem zf8 {a b:γ} (h:dataLt (enc a) (enc b)=true):a ≠ b:=fun z=>by subst z; rw [z14] at h; cases h
instance:Orderly (z0j enc) where
 al a b:=by simp [z0j,alike,alikeAll,O.al a.1 b.1]
 eq a b:=by
  simp only [z0j,PyData.eqv,PyData.eqvAll,O.eq,Bool.and_true,ib]
  by_cases h:a=b
  ·subst h; simp
  ·rw [decide_eq_false h]
   rw [Bool.and_eq_false_iff]
   by_cases h1:a.1=b.1
   ·exact .inr (decide_eq_false fun h2=>h (Prod.ext h1 h2))
   ·exact .inl (decide_eq_false h1)
theorem zd7 (p q:γ × Int):dataLt (z0j enc p) (z0j enc q)=if p.1=q.1 then decide (p.2 < q.2) else dataLt (enc p.1) (enc q.1):=by
 unfold z0j
 rw [dataLt_pair (O.al p.1 q.1) (by simp [alike]),O.eq]
 by_cases h:p.1=q.1
 ·rw [if_pos (by simp [h]),if_pos h,dataLt_int]
  by_cases h2:p.2=q.2
  ·simp [PyData.eqv,h2]
  ·simp [PyData.eqv,h2]
 ·rw [if_neg (by simp [h]),if_neg h]
/-- in order -/
def srtE (enc:γ->PyData) (bs:List γ):List γ:=bs.mergeSort (dataLe false enc)
theorem z0v (bs:List γ):(srtE enc bs).Perm bs:=List.mergeSort_perm _ _
theorem zfr (bs:List γ):(srtE enc bs).Pairwise (fun a b=>dataLt (enc b) (enc a)=false):=by
 have h:=List.pairwise_mergeSort (le:=dataLe false enc) (fun a b c h1 h2=>?_) (fun a b=>?_) bs
 ·refine h.imp fun {a b} hab=>?_
  rw [dataLe_eq] at hab
  simpa using hab
 ·rw [dataLe_eq] at h1 h2 ⊢
  simp only [cond_false,Bool.not_eq_true'] at h1 h2 ⊢
  by_cases hab:a=b
  ·subst hab; exact h2
  ·by_cases hbc:b=c
   ·subst hbc; exact h1
   ·exact z4b (z3d (z6r (fun z=>hab z.symm) h1) (z6r (fun z=>hbc z.symm) h2))
 ·rw [dataLe_eq]
  simp only [cond_false]
  cases e:dataLt (enc b) (enc a) with
  | false=>rfl
  | true=>rw [z4b e]; rfl
/-- how many of a thing -/
def sumE (ps:List (γ × Int)) (x:γ):Int:=match ps with
 | []=>0
 | p::r=>(if p.1=x then p.2 else 0)+sumE r x
theorem z0t (x:γ):∀ (as bs:List (γ × Int)),sumE (as++bs) x=sumE as x+sumE bs x
 | [],bs=>by simp [sumE]
 | p::r,bs=>by show _+sumE (r++bs) x=_; rw [z0t x r bs,sumE]; omega
theorem zb5 {as bs:List (γ × Int)} (h:as.Perm bs) (x:γ):sumE as x=sumE bs x:=by
 induction h with
 | nil=>rfl
 | cons y _ ih=>simp only [sumE]; omega
 | swap y z l=>simp only [sumE]; omega
 | trans _ _ h1 h2=>omega
theorem zag (acc:List (γ × Int)) (p:γ × Int) (x:γ):sumE (z04 acc p) x=sumE acc x+(if p.1=x then p.2 else 0):=by
 rcases List.eq_nil_or_concat acc with h | ⟨a,z,h⟩
 ·subst h; rw [z0o]; simp [sumE]
 ·subst h
  rw [List.concat_eq_append,z0c]
  by_cases hz:z.1=p.1
  ·rw [if_pos hz,z0t,z0t]
   simp only [sumE,hz]
   by_cases hx:p.1=x
   ·simp only [if_pos hx]; omega
   ·simp only [if_neg hx]; omega
  ·rw [if_neg hz,z0t]; simp only [sumE]; omega
theorem zg6 (bs:List (γ × Int)) (x:γ):sumE (jn bs) x=sumE bs x:=by
 have key:∀ (bs acc:List (γ × Int)),sumE (bs.foldl z04 acc) x=sumE acc x+sumE bs x:=by
  intro bs
  induction bs with
  | nil=>intro acc; simp [sumE]
  | cons p r ih =>
   intro acc
   show sumE (r.foldl z04 (z04 acc p)) x=_
   rw [ih,zag,sumE]; omega
 have:=key bs []
 simpa [jn,sumE] using this
/-- keys that do not fall rise strictly when like ones are put together -/
theorem zfy {bs:List (γ × Int)} (h:bs.Pairwise (fun a b=>dataLt (enc b.1) (enc a.1)=false)):(jn bs).Pairwise (fun p q=>dataLt (enc p.1) (enc q.1)=true):=by
 have key:∀ (bs acc:List (γ × Int)),acc.Pairwise (fun p q=>dataLt (enc p.1) (enc q.1)=true)->(∀ a ∈ acc,∀ b ∈ bs,dataLt (enc b.1) (enc a.1)=false)->bs.Pairwise (fun a b=>dataLt (enc b.1) (enc a.1)=false)->(bs.foldl z04 acc).Pairwise (fun p q=>dataLt (enc p.1) (enc q.1)=true):=by
  intro bs
  induction bs with
  | nil=>intro acc h _ _; exact h
  | cons p r ih =>
   intro acc h1 h2 h3
   obtain ⟨h31,h32⟩:=List.pairwise_cons.mp h3
   refine ih (z04 acc p) ?_ ?_ h32
   ·rcases List.eq_nil_or_concat acc with h | ⟨a,z,h⟩
    ·subst h; rw [z0o]; exact List.pairwise_singleton _ _
    ·subst h
     rw [List.concat_eq_append] at h1 h2 ⊢
     rw [z0c]
     obtain ⟨a1,_,a3⟩:=List.pairwise_append.mp h1
     by_cases hz:z.1=p.1
     ·rw [if_pos hz,List.pairwise_append]
      refine ⟨a1,List.pairwise_singleton _ _,fun x hx y hy=>?_⟩
      have hy':y=(p.1,z.2+p.2):=by simpa using hy
      subst hy'
      show dataLt (enc x.1) (enc p.1)=true
      rw [<- hz]; exact a3 x hx z (by simp)
     ·rw [if_neg hz,List.pairwise_append]
      refine ⟨h1,List.pairwise_singleton _ _,fun x hx y hy=>?_⟩
      have hy':y=p:=by simpa using hy
      subst hy'
      have hzp:dataLt (enc z.1) (enc y.1)=true:=z6r (fun q=>hz q.symm) (h2 z (by simp) y (mcs ..))
      rcases List.mem_append.mp hx with hx | hx
      ·exact z3d (a3 x hx z (by simp)) hzp
      ·have hx':x=z:=by simpa using hx
       subst hx'; exact hzp
   ·intro a ha b hb
    have hpb:=h31 b hb
    rcases List.eq_nil_or_concat acc with h | ⟨c,z,h⟩
    ·subst h
     rw [z0o] at ha
     have:a=p:=by simpa using ha
     subst this; exact hpb
    ·subst h
     rw [List.concat_eq_append] at ha h2
     rw [z0c] at ha
     by_cases hz:z.1=p.1
     ·rw [if_pos hz] at ha
      rcases List.mem_append.mp ha with ha | ha
      ·exact h2 a (mal _ ha) b (mcm _ hb)
      ·have:a=(p.1,z.2+p.2):=by simpa using ha
       subst this; exact hpb
     ·rw [if_neg hz] at ha
      rcases List.mem_append.mp ha with ha | ha
      ·exact h2 a ha b (mcm _ hb)
      ·have:a=p:=by simpa using ha
       subst this; exact hpb
 exact key bs [] List.Pairwise.nil (by simp) h
theorem zdd (bs:List (γ × Int)):(srtE (z0j enc) bs).Pairwise (fun a b=>dataLt (enc b.1) (enc a.1)=false):=by
 refine (zfr (enc:=z0j enc) bs).imp fun {a b} hab=>?_
 rw [zd7] at hab
 by_cases h:b.1=a.1
 ·rw [h]; exact z14 _
 ·rw [if_neg h] at hab; exact hab
/-- put in order,like ones together -/
def tdy (enc:γ->PyData) (bs:List (γ × Int)):List (γ × Int):=jn (srtE (z0j enc) bs)
theorem z8w (bs:List (γ × Int)):(tdy enc bs).Pairwise (fun p q=>dataLt (enc p.1) (enc q.1)=true):=zfy (zdd bs)
theorem z7e (bs:List (γ × Int)) (x:γ):sumE (tdy enc bs) x=sumE bs x:=by
 unfold tdy
 rw [zg6,zb5 (z0v bs)]
theorem z1b (bs:List (γ × Int)):∀ p ∈ tdy enc bs,∃ q ∈ bs,q.1=p.1:=fun p hp=>by
 obtain ⟨q,hq,e⟩:=z22 _ p hp
 exact ⟨q,(z0v bs).mem_iff.mp hq,e⟩
/-- how many in all -/
def allE:List (γ × Int)->Int
 | []=>0
 | p::r=>p.2+allE r
theorem z1n:∀ as bs:List (γ × Int),allE (as++bs)=allE as+allE bs
 | [],bs=>by simp [allE]
 | p::r,bs=>by show _+allE (r++bs)=_; rw [z1n r bs,allE]; omega
theorem zb4 {as bs:List (γ × Int)} (h:as.Perm bs):allE as=allE bs:=by
 induction h with
 | nil=>rfl
 | cons y _ ih=>simp only [allE]; omega
 | swap y z l=>simp only [allE]; omega
 | trans _ _ h1 h2=>omega
theorem zi0 (bs:List (γ × Int)):allE (jn bs)=allE bs:=by
 have key:∀ (bs acc:List (γ × Int)),allE (bs.foldl z04 acc)=allE acc+allE bs:=by
  intro bs
  induction bs with
  | nil=>intro acc; simp [allE]
  | cons p r ih =>
   intro acc
   show allE (r.foldl z04 (z04 acc p))=_
   rw [ih]
   have e:allE (z04 acc p)=allE acc+p.2:=by
    rcases List.eq_nil_or_concat acc with h | ⟨a,z,h⟩
    ·subst h; rw [z0o]; simp [allE]
    ·subst h
     rw [List.concat_eq_append,z0c]
     split
     ·rw [z1n,z1n]; simp only [allE]; omega
     ·rw [z1n]; simp only [allE]; omega
   rw [e,allE]; omega
 have:=key bs []
 simpa [jn,allE] using this
theorem zi8 {bs:List (γ × Int)} (h:∀ p ∈ bs,1<=p.2):∀ p ∈ jn bs,1<=p.2:=by
 have key:∀ (bs acc:List (γ × Int)),(∀ p ∈ acc,1<=p.2)->(∀ p ∈ bs,1<=p.2)->∀ p ∈ bs.foldl z04 acc,1<=p.2:=by
  intro bs
  induction bs with
  | nil=>intro acc h _; exact h
  | cons p r ih =>
   intro acc h1 h2
   refine ih (z04 acc p) (fun q hq=>?_) fun q hq=>h2 q (mcm _ hq)
   have hp:=h2 p (mcs ..)
   rcases List.eq_nil_or_concat acc with h | ⟨a,z,h⟩
   ·subst h
    rw [z0o] at hq
    have:q=p:=by simpa using hq
    subst this; exact hp
   ·subst h
    rw [List.concat_eq_append] at h1 hq
    rw [z0c] at hq
    have hz:=h1 z (by simp)
    by_cases e:z.1=p.1
    ·rw [if_pos e] at hq
     rcases List.mem_append.mp hq with hq | hq
     ·exact h1 q (mal _ hq)
     ·have:q=(p.1,z.2+p.2):=by simpa using hq
      subst this; show 1<=z.2+p.2; omega
    ·rw [if_neg e] at hq
     rcases List.mem_append.mp hq with hq | hq
     ·exact h1 q hq
     ·have:q=p:=by simpa using hq
      subst this; exact hp
 exact key bs [] (by simp) h
theorem zgt {bs:List (γ × Int)} (h:∀ p ∈ bs,1<=p.2):∀ p ∈ bs,p.2<=allE bs:=by
 induction bs with
 | nil=>intro p hp; cases hp
 | cons a r ih =>
  intro p hp
  have hr:0<=allE r:=by
   clear ih hp
   have:∀ p ∈ r,1<=p.2:=fun p hp=>h p (mcm _ hp)
   clear h
   induction r with
   | nil=>exact Int.le_refl _
   | cons b r ih2 =>
    have h1:=this b (mcs ..)
    have h2:=ih2 fun p hp=>this p (mcm _ hp)
    show 0<=b.2+allE r; omega
  have ha:=h a (mcs ..)
  rcases List.mem_cons.mp hp with hp | hp
  ·subst hp; show p.2<=p.2+allE r; omega
  ·have:=ih (fun p hp=>h p (mcm _ hp)) p hp
   show p.2<=a.2+allE r; omega
theorem zgm {bs:List (γ × Int)} {C:Int} (h:∀ p ∈ bs,p.2<=C):allE bs<=bs.length*C:=by
 induction bs with
 | nil=>simp [allE]
 | cons a r ih =>
  have h1:=h a (mcs ..)
  have h2:=ih fun p hp=>h p (mcm _ hp)
  show a.2+allE r<=((r.length+1:Nat):Int)*C
  rw [Int.natCast_add,Int.add_mul]
  simp only [Int.natCast_one,Int.one_mul]
  omega
theorem za2 {bs:List (γ × Int)} (h:∀ p ∈ bs,1<=p.2):∀ p ∈ tdy enc bs,1<=p.2/\p.2<=allE bs:=fun p hp=>by
 have h0:∀ p ∈ srtE (z0j enc) bs,1<=p.2:=fun p hp=>h p ((z0v bs).mem_iff.mp hp)
 have h1:=zi8 h0
 refine ⟨h1 p hp,?_⟩
 have h2:=zgt h1 p hp
 rw [zi0,zb4 (z0v bs)] at h2
 exact h2
end
inductive Gr where
 | nil
 | cons (k:Str) (g:Gr) (m:Int) (r:Gr)
 deriving DecidableEq
abbrev Tr:=Str × Gr
/-- a name: one to eight small letters -/
def z01 (k:Str):Prop:=1<=k.cps.toList.length/\k.cps.toList.length<=8/\∀ c ∈ k.cps.toList,97<=c/\c<=122
namespace Gr
def encs:Gr->List PyData
 | .nil=>[]
 | .cons k g m r=>.tuple [.tuple [.str k,.tuple g.encs],.int m]::r.encs
def enc (g:Gr):PyData:=.tuple g.encs
def tEnc (t:Tr):PyData:=.tuple [.str t.1,t.2.enc]
abbrev pEnc:Tr × Int->PyData:=z0j tEnc
def ps:Gr->List (Tr × Int)
 | .nil=>[]
 | .cons k g m r=>((k,g),m)::r.ps
def ofPs:List (Tr × Int)->Gr
 | []=>.nil
 | p::r=>.cons p.1.1 p.1.2 p.2 (ofPs r)
theorem ofPs_ps:∀ g:Gr,ofPs g.ps=g
 | .nil=>rfl
 | .cons k g m r=>by show Gr.cons k g m (ofPs r.ps)=_; rw [ofPs_ps r]
theorem ps_ofPs:∀ bs:List (Tr × Int),(ofPs bs).ps=bs
 | []=>rfl
 | p::r=>by show ((p.1.1,p.1.2),p.2)::(ofPs r).ps=_; rw [ps_ofPs r]
theorem encs_ps:∀ g:Gr,g.encs=g.ps.map pEnc
 | .nil=>rfl
 | .cons k g m r=>by show _::r.encs=_::r.ps.map pEnc; rw [encs_ps r]; rfl
def parts:Gr->Nat
 | .nil=>0
 | .cons _ g _ r=>1+g.parts+r.parts
def deep:Gr->Nat
 | .nil=>0
 | .cons _ g _ r=>max (1+g.deep) r.deep
def size:Gr->Int
 | .nil=>0
 | .cons _ g m r=>m*(1+g.size)+r.size
def tot:List (Tr × Int)->Nat
 | []=>0
 | p::r=>1+p.1.2.parts+tot r
theorem parts_ofPs:∀ bs:List (Tr × Int),(ofPs bs).parts=tot bs
 | []=>rfl
 | p::r=>by show 1+p.1.2.parts+(ofPs r).parts=1+p.1.2.parts+tot r; rw [parts_ofPs r]
theorem tot_ps (g:Gr):tot g.ps=g.parts:=by rw [<- parts_ofPs,ofPs_ps]
theorem tot_append:∀ bs cs:List (Tr × Int),tot (bs++cs)=tot bs+tot cs
 | [],cs=>by simp [tot]
 | p::r,cs=>by show 1+p.1.2.parts+tot (r++cs)=_; rw [tot_append r cs,tot]; omega
theorem tot_perm {bs cs:List (Tr × Int)} (h:bs.Perm cs):tot bs=tot cs:=by
 induction h with
 | nil=>rfl
 | cons x _ ih=>simp only [tot]; omega
 | swap x y l=>simp only [tot]; omega
 | trans _ _ h1 h2=>omega
theorem len_tot:∀ bs:List (Tr × Int),bs.length<=tot bs
 | []=>Nat.le_refl _
 | p::r=>by have:=len_tot r; show r.length+1<=1+p.1.2.parts+tot r; omega
theorem tot_jn (bs:List (Tr × Int)):tot (jn bs)<=tot bs:=by
 have key:∀ (bs acc:List (Tr × Int)),tot (bs.foldl z04 acc)<=tot acc+tot bs:=by
  intro bs
  induction bs with
  | nil=>intro acc; simp [tot]
  | cons x r ih =>
   intro acc
   have h1:=ih (z04 acc x)
   have h2:tot (z04 acc x)<=tot acc+(1+x.1.2.parts):=by
    rcases List.eq_nil_or_concat acc with h | ⟨a,z,h⟩
    ·subst h; simp [z0o,tot]
    ·subst h
     rw [List.concat_eq_append,z0c]
     by_cases hz:z.1=x.1
     ·rw [if_pos hz,tot_append,tot_append]; simp only [tot]; rw [hz]; omega
     ·rw [if_neg hz,tot_append,tot_append]; simp only [tot]; omega
   show tot (r.foldl z04 (z04 acc x))<=tot acc+(1+x.1.2.parts+tot r)
   omega
 have:=key bs []
 simpa [jn,tot] using this
theorem mem_deep:∀ (g:Gr) (p:Tr × Int),p ∈ g.ps->p.1.2.deep < g.deep
 | .nil,p,h=>by cases h
 | .cons k g m r,p,h=>by
  rcases List.mem_cons.mp h with h | h
  ·subst h; show g.deep < max (1+g.deep) r.deep; omega
  ·have:=mem_deep r p h; show _ < max (1+g.deep) r.deep; omega
theorem mem_parts:∀ (g:Gr) (p:Tr × Int),p ∈ g.ps->p.1.2.parts < g.parts
 | .nil,p,h=>by cases h
 | .cons k g m r,p,h=>by
  rcases List.mem_cons.mp h with h | h
  ·subst h; show g.parts < 1+g.parts+r.parts; omega
  ·have:=mem_parts r p h; show _ < 1+g.parts+r.parts; omega
theorem deep_le {n:Nat}:∀ {g:Gr},(∀ p ∈ g.ps,p.1.2.deep < n)->g.deep<=n
 | .nil,_=>Nat.zero_le _
 | .cons k g m r,h=>by
  have h1:=h ((k,g),m) (mcs ..)
  have h2:=deep_le (g:=r) fun p hp=>h p (mcm _ hp)
  show max (1+g.deep) r.deep<=n
  have:g.deep < n:=h1
  omega
theorem len_parts (g:Gr):g.ps.length<=g.parts:=by have:=len_tot g.ps; rw [tot_ps] at this; exact this
theorem alikes:∀ g h:Gr,alikeAll g.encs h.encs=true
 | .nil,_=>by simp [encs,alikeAll]
 | .cons _ _ _ _,.nil=>by simp [encs,alikeAll]
 | .cons k g m r,.cons k' g' m' r'=>by
  have h1:=alikes g g'
  have h2:=alikes r r'
  simp [encs,alikeAll,alike,h1,h2]
theorem alike_enc (g h:Gr):alike g.enc h.enc=true:=by
 show alike (.tuple g.encs) (.tuple h.encs)=true
 rw [alike]; exact alikes g h
theorem sb (a b:Str):(a == b)=decide (a=b):=by by_cases h:a=b <;> simp [h]
theorem eqvs:∀ g h:Gr,PyData.eqvAll g.encs h.encs=decide (g=h)
 | .nil,.nil=>by simp [encs,PyData.eqvAll]
 | .nil,.cons _ _ _ _=>by simp [encs,PyData.eqvAll]
 | .cons _ _ _ _,.nil=>by simp [encs,PyData.eqvAll]
 | .cons k g m r,.cons k' g' m' r'=>by
  have h1:=eqvs g g'
  have h2:=eqvs r r'
  simp [encs,PyData.eqvAll,PyData.eqv,h1,h2,Bool.and_assoc,ib,sb]
theorem eqv_enc (g h:Gr):PyData.eqv g.enc h.enc=decide (g=h):=by
 rw [enc,enc,PyData.eqv]; exact eqvs g h
instance:Orderly tEnc where
 al a b:=by simp [tEnc,alike,alikeAll,alike_enc]
 eq a b:=by
  simp only [tEnc,PyData.eqv,PyData.eqvAll,eqv_enc,Bool.and_true,sb]
  by_cases h:a=b
  ·subst h; simp
  ·rw [decide_eq_false h,Bool.and_eq_false_iff]
   by_cases h1:a.1=b.1
   ·exact .inr (decide_eq_false fun h2=>h (Prod.ext h1 h2))
   ·exact .inl (decide_eq_false h1)
theorem noLists_encs:∀ g:Gr,z06 g.encs=true
 | .nil=>by simp [encs,z06]
 | .cons k g m r=>by simp [encs,z06,z03,noLists_encs g,noLists_encs r]
theorem noList_enc (g:Gr):z03 g.enc=true:=by simp [enc,z03,noLists_encs g]
theorem noList_tEnc (t:Tr):z03 (tEnc t)=true:=by simp [tEnc,z03,z06,noList_enc]
theorem noList_pEnc (p:Tr × Int):z03 (pEnc p)=true:=by simp [pEnc,z0j,z03,z06,noList_tEnc]
theorem encs_depth:∀ g:Gr,PyData.depthAll g.encs<=3*g.deep
 | .nil=>by simp [encs,PyData.depthAll,deep]
 | .cons k g m r=>by
  have h1:=encs_depth g
  have h2:=encs_depth r
  simp only [encs,PyData.depthAll,PyData.depth,deep]
  omega
theorem enc_depth (g:Gr):g.enc.depth<=3*g.deep+1:=by
 have:=encs_depth g
 simp only [enc,PyData.depth]
 omega
theorem tEnc_depth (t:Tr):(tEnc t).depth<=3*t.2.deep+2:=by
 have:=enc_depth t.2
 simp only [tEnc,PyData.depth,PyData.depthAll]; omega
theorem pEnc_depth (p:Tr × Int):(pEnc p).depth<=3*p.1.2.deep+3:=by
 have:=tEnc_depth p.1
 simp only [pEnc,z0j,PyData.depth,PyData.depthAll]; omega
/-- all names are names,numbers from 1 to below C,trees in order -/
def Ok (C:Int):Gr->Prop
 | .nil=>True
 | .cons k g m r=>z01 k/\g.Ok C/\1<=m/\m < C/\r.Ok C/\∀ p ∈ r.ps,dataLt (tEnc (k,g)) (tEnc p.1)=true
theorem Ok.mono {B C:Int} (h:B<=C):∀ {g:Gr},g.Ok B->g.Ok C
 | .nil,_=>trivial
 | .cons k g m r,⟨h0,h1,h2,h3,h4,h5⟩=>⟨h0,Ok.mono h h1,h2,by omega,Ok.mono h h4,h5⟩
theorem ok_ps {C:Int}:∀ {bs:List (Tr × Int)},(ofPs bs).Ok C ↔ (∀ p ∈ bs,z01 p.1.1/\p.1.2.Ok C/\1<=p.2/\p.2 < C)/\bs.Pairwise (fun p q=>dataLt (tEnc p.1) (tEnc q.1)=true)
 | []=>by simp [ofPs,Ok]
 | x::r=>by
  have ih:=ok_ps (C:=C) (bs:=r)
  show (z01 x.1.1/\x.1.2.Ok C/\1<=x.2/\x.2 < C/\(ofPs r).Ok C/\∀ p ∈ (ofPs r).ps,dataLt (tEnc x.1) (tEnc p.1)=true) ↔ _
  rw [ps_ofPs,List.pairwise_cons,ih]
  constructor
  ·rintro ⟨h0,h1,h2,h3,⟨h4,h5⟩,h6⟩
   refine ⟨fun p hp=>?_,h6,h5⟩
   rcases List.mem_cons.mp hp with hp | hp
   ·subst hp; exact ⟨h0,h1,h2,h3⟩
   ·exact h4 p hp
  ·rintro ⟨h1,h2,h3⟩
   have h4:=h1 x (mcs ..)
   exact ⟨h4.1,h4.2.1,h4.2.2.1,h4.2.2.2,⟨fun p hp=>h1 p (mcm _ hp),h3⟩,h2⟩
theorem ok_iff {C:Int} {g:Gr}:g.Ok C ↔ (∀ p ∈ g.ps,z01 p.1.1/\p.1.2.Ok C/\1<=p.2/\p.2 < C)/\g.ps.Pairwise (fun p q=>dataLt (tEnc p.1) (tEnc q.1)=true):=by
 have:=ok_ps (C:=C) (bs:=g.ps)
 rw [ofPs_ps] at this
 exact this
theorem strOk_name {k:Str} (h:z01 k):PySem.PyData.strOk k=true:=by
 show k.cps.all (· < 0x110000)=true
 rw [Array.all_eq_true']
 intro c hc
 have:=h.2.2 c (by simpa using hc)
 simp; omega
theorem lays {C:Int}:∀ {g:Gr},g.Ok C->PyData.canLayAll0 g.encs=true
 | .nil,_=>by simp [encs,PyData.canLayAll0]
 | .cons k g m r,⟨h0,h1,_,_,h4,_⟩=>by
  have e1:=lays h1
  have e2:=lays h4
  simp [encs,PyData.canLayAll0,PyData.canLay0,e1,e2,strOk_name h0]
theorem shaped_tEnc {C:Int} {t:Tr} (h0:z01 t.1) (h:t.2.Ok C) (hd:t.2.deep<=20):SeqAt.shaped (tEnc t)=true:=by
 have:=tEnc_depth t
 unfold SeqAt.shaped
 rw [show (tEnc t).canLay0=true by simp [tEnc,PyData.canLay0,PyData.canLayAll0,strOk_name h0,enc,lays h]]
 simp; omega
theorem pEnc_all (bs:List (Tr × Int)):AllAlike (bs.map pEnc):=AllAlike.of fun a b=>Orderly.al (enc:=pEnc) a b
theorem pEnc_sortable (bs:List (Tr × Int)):Sortable (bs.map pEnc):=Sortable.tuples fun b=>⟨_,_,rfl⟩
/-- the grove of some pairs -/
def tidy (bs:List (Tr × Int)):Gr:=ofPs (tdy tEnc bs)
theorem tidy_parts (bs:List (Tr × Int)):(tidy bs).parts<=tot bs:=by
 unfold tidy
 rw [parts_ofPs]
 have h1:=tot_jn (srtE (z0j tEnc) bs)
 rw [tot_perm (z0v bs)] at h1
 exact h1
theorem tidy_deep {n:Nat} {bs:List (Tr × Int)} (h:∀ p ∈ bs,p.1.2.deep < n):(tidy bs).deep<=n:=by
 refine deep_le fun p hp=>?_
 unfold tidy at hp
 rw [ps_ofPs] at hp
 obtain ⟨q,hq,e⟩:=z1b bs p hp
 rw [<- e]; exact h q hq
theorem tidy_ok {C D:Int} {bs:List (Tr × Int)} (h:∀ p ∈ bs,z01 p.1.1/\p.1.2.Ok C/\1<=p.2) (hD:allE bs < D) (hCD:C<=D):(tidy bs).Ok D:=by
 unfold tidy
 rw [ok_ps]
 refine ⟨fun p hp=>?_,z8w bs⟩
 obtain ⟨q,hq,e⟩:=z1b bs p hp
 have hq2:=h q hq
 obtain ⟨h1,h2⟩:=za2 (enc:=tEnc) (fun p hp=>(h p hp).2.2) p hp
 rw [<- e]
 exact ⟨hq2.1,hq2.2.1.mono hCD,h1,by omega⟩
end Gr
/-- at v stands the grove g -/
def GA (K:PySem.W.Frag) (H:Hp) (v:V) (g:Gr):Prop:=Dp K H v g.enc
section
variable {K:PySem.W.Frag} {ps:List Addr} {H H':Hp} {v:V} {g:Gr}
theorem GA.sb (h:GA K H v g) (e:SB ps H H'):GA K H' v g:=z0e e _ _ g.noList_enc h
theorem z1m (h:GA K H v g):∃ a xs,v=.ref a/\SqT K H a xs/\Bears K H Gr.pEnc xs g.ps:=by
 have h':Dp K H v (.tuple g.encs):=h
 cases h' with
 | tup hs ha =>
  rw [Gr.encs_ps] at ha
  exact ⟨_,_,rfl,hs,Bears.of ha⟩
theorem zd9 {a:Addr} {xs:List V} {bs:List (Tr × Int)} (h:SqT K H a xs) (hb:Bears K H Gr.pEnc xs bs):GA K H (.ref a) (Gr.ofPs bs):=by
 refine Dp.tup h ?_
 rw [Gr.encs_ps,Gr.ps_ofPs]
 exact hb.dp
theorem zis {p:Addr} (h:SqT K H p []):GA K H (.ref p) .nil:=Dp.tup h .nil
theorem z8x {t:Tr} (h:Dp K H v (Gr.tEnc t)):∃ a u,v=.ref a/\SqT K H a [.str t.1,u]/\GA K H u t.2:=by
 cases h with
 | tup hs ha =>
  cases ha with
  | cons h1 h2 =>
   cases h2 with
   | cons h3 h4 =>
    cases h4
    cases h1
    exact ⟨_,_,rfl,hs,h3⟩
theorem z0x {p:Tr × Int} (h:Dp K H v (Gr.pEnc p)):∃ a b u,v=.ref a/\SqT K H a [.ref b,.int p.2]/\SqT K H b [.str p.1.1,u]/\GA K H u p.1.2/\Dp K H (.ref b) (Gr.tEnc p.1):=by
 cases h with
 | tup hs ha =>
  cases ha with
  | cons h1 h2 =>
   cases h2 with
   | cons h3 h4 =>
    cases h4
    cases h3
    obtain ⟨b,u,rfl,hb,hg⟩:=z8x h1
    exact ⟨_,b,u,rfl,hs,hb,hg,h1⟩
end
def PuG (H:Hp) (p:Addr):Prop:=∃ x y:Int,H p=some (.lst [.int x,.int y])/\0<=x/\1<=y/\y<=18446744073709551557
theorem PuG.sb {H H':Hp} {p:Addr} (h:PuG H p) (e:SB [] H H'):PuG H' p:=by
 obtain ⟨x,y,h1,h2⟩:=h
 exact ⟨x,y,e.keep _ _ h1 nmn,h2⟩
theorem PuG.keep {H H':Hp} {p:Addr} {ps:List Addr} (h:PuG H p) (e:SB ps H H') (n:p ∉ ps):PuG H' p:=by
 obtain ⟨x,y,h1,h2⟩:=h
 exact ⟨x,y,e.keep _ _ h1 n,h2⟩
theorem PuG.ne {H:Hp} {p q:Addr} (h:PuG H p) (n:H q=none):p ≠ q:=by
 obtain ⟨x,y,h1,h2⟩:=h
 exact ne_of_none h1 n
def Ltr (z:Str) (n:Nat):Prop:=z.cps.toList.length=n/\∀ c ∈ z.cps.toList,97<=c/\c<=122
theorem Ltr.name {z:Str} {n:Nat} (h:Ltr z n) (h1:1<=n) (h8:n<=8):z01 z:=⟨by have:=h.1; omega,by have:=h.1; omega,h.2⟩
theorem Ltr.len {z:Str} {n:Nat} (h:Ltr z n):z.length=n:=by have:=h.1; simpa [Str.length] using this
theorem Ltr.one {c:Nat} (h:97<=c/\c<=122):Ltr ⟨#[c]⟩ 1:=⟨rfl,fun x hx=>by simp at hx; subst hx; exact h⟩
theorem Ltr.append {a b:Str} {n m:Nat} (ha:Ltr a n) (hb:Ltr b m):Ltr (a++b) (n+m):=by
 have e:(a++b).cps.toList=a.cps.toList++b.cps.toList:=by show (a.cps++b.cps).toList=_; simp
 unfold Ltr
 rw [e,List.length_append,ha.1,hb.1]
 refine ⟨rfl,fun c hc=>?_⟩
 rcases List.mem_append.mp hc with hc | hc
 ·exact ha.2 c hc
 ·exact hb.2 c hc
theorem Ltr.take {z:Str} {n:Nat} (h:Ltr z n) (k:Nat):Ltr (cutS z none (some (k:Int))) (min k n):=by
 have hl:=h.len
 have e:(cutS z none (some (k:Int))).cps.toList=z.cps.toList.take (min k n):=by
  unfold cutS
  rw [HT.sIx_none,HT.sIx_nat,hl]
  simp
 unfold Ltr
 rw [e,List.length_take,h.1]
 exact ⟨by omega,fun c hc=>h.2 c (List.mem_of_mem_take hc)⟩
theorem Ltr.cut {z:Str} {n:Nat} (h:Ltr z n) (a b:Nat):Ltr (cutS z (some (a:Int)) (some (b:Int))) (min b n-min a n):=by
 have hl:=h.len
 have e:(cutS z (some (a:Int)) (some (b:Int))).cps.toList=(z.cps.toList.drop (min a n)).take (min b n-min a n):=by
  unfold cutS
  rw [HT.sIx_nat,HT.sIx_nat,hl]
 unfold Ltr
 rw [e,List.length_take,List.length_drop,h.1]
 exact ⟨by omega,fun c hc=>h.2 c (List.mem_of_mem_drop (List.mem_of_mem_take hc))⟩
theorem z7t:∀ (cs:List Nat) (acc:Array Nat),((cs.map fun c=>(⟨#[c]⟩:Str)).foldl (fun acc p=>acc++(Str.ofString "").cps++p.cps) acc).toList=acc.toList++cs
 | [],acc=>by simp
 | c::cs,acc=>by
  have e0:(Str.ofString "").cps=#[]:=by decide +kernel
  rw [List.map_cons,List.foldl_cons,z7t cs]
  simp [e0]
theorem zbr (cs:List Nat) (h:∀ c ∈ cs,97<=c/\c<=122):Ltr (Txt.join (Str.ofString "") (cs.map fun c=>⟨#[c]⟩)) cs.length:=by
 have e:(Txt.join (Str.ofString "") (cs.map fun c=>(⟨#[c]⟩:Str))).cps.toList=cs:=by
  show (Builtin.Str.glued (Str.ofString "") (cs.map fun c=>(⟨#[c]⟩:Str))).cps.toList=cs
  unfold Builtin.Str.glued
  cases cs with
  | nil=>rfl
  | cons c r =>
   show ((r.map fun c=>(⟨#[c]⟩:Str)).foldl (fun acc p=>acc++(Str.ofString "").cps++p.cps) #[c]).toList=c::r
   rw [z7t]
   rfl
 unfold Ltr
 rw [e]
 exact ⟨rfl,h⟩
abbrev abc:Str:=Str.ofString "abcdefghijklmnopqrstuvwxyz"
theorem zhu:∀ r:Nat,r < 26->∃ c,abc.cps.toList[r]?=some c/\97<=c/\c<=122:=by
 have:∀ r:Fin 26,∃ c:Fin 200,abc.cps.toList[r.val]?=some c.val/\97<=c.val/\c.val<=122:=by decide +kernel
 intro r hr
 obtain ⟨c,h⟩:=this ⟨r,hr⟩
 exact ⟨c.val,h⟩
theorem z9p:abc.length<=sizeLine:=by decide +kernel
theorem z6e {xs:List Nat} {j:Nat} {c:Nat} (h:xs[j]?=some c):atI xs (j:Int)=some c:=by
 have hj:j < xs.length:=(List.getElem?_eq_some_iff.mp h).1
 unfold atI ixN
 rw [if_pos (by omega),if_pos (by omega)]
 simpa using h
theorem zcu (ks:List Str) (k:Nat):cutV (ks.map V.str) (some (k:Int)) none=(ks.drop k).map V.str:=by rw [z9u,List.map_drop]
/-- sorted(xs),xs a list or a tuple of data that are alike -/
def zcl (K:PySem.W.Frag) {β:Type} (enc:β->PyData) (vs:List V) (H:Hp) (Q:VK):Prop:=∃ (a:Addr) (xs:List V) (bs:List β),vs=[V.ref a]/\(SqL K H a xs\/SqT K H a xs)/\Bears K H enc xs bs/\AllAlike (bs.map enc)/\Sortable (bs.map enc)/\bs.length<=10000/\(∀ b ∈ bs,(enc b).depth<=100) /\
 ∀ (p:Addr) (ys:List V),H p=none->Bears K H enc ys (bs.mergeSort (dataLe false enc))->Q (.ref p) (upd H p (.lst ys))
theorem zab {X:Cx} {β:Type} (enc:β->PyData) (hu:X.A.units+110 < cLine):CallR X (.builtin "sorted") (zcl X.K enc):=by
 intro pins s σ H vs us Q I r h
 obtain ⟨a,xs,bs,h1,h2,h3⟩:=h
 rcases h2 with h2 | h2
 ·exact zaa enc hu pins s σ H vs us Q I r ⟨a,xs,bs,h1,h2,h3⟩
 ·exact za8 enc hu pins s σ H vs us Q I r ⟨a,xs,bs,h1,h2,h3⟩
namespace Gr
/-- all pairs that stand anywhere -/
def within:Gr->List (Tr × Int)
 | .nil=>[]
 | .cons k g m r=>((k,g),m)::(g.within++r.within)
theorem within_ps:∀ g:Gr,g.within=g.ps.flatMap fun p=>p::p.1.2.within
 | .nil=>rfl
 | .cons k g m r=>by show ((k,g),m)::(g.within++r.within)=_; rw [within_ps r]; rfl
theorem within_length:∀ g:Gr,g.within.length=g.parts
 | .nil=>rfl
 | .cons k g m r=>by show (g.within++r.within).length+1=1+g.parts+r.parts; rw [List.length_append,within_length g,within_length r]; omega
end Gr
def z1h (K:PySem.W.Frag) (n:Nat):Sp:=fun vs H Q _=>∃ (v:V) (g:Gr),vs=[v]/\GA K H v g/\g.deep < n/\g.parts<=200000/\∀ (D:Addr) (us:List V) (H':Hp),SB [] H H'->H D=none->H' D=some (.lst us)->Bears K H' Gr.pEnc us g.within->Q (.ref D) H'
section
variable {P:Program} {w:World} {K:PySem.W.Frag} {mg:Str->Option Value} {base:Heap} {f:Addr} {fd:FuncData}
theorem zcn {ps:List Str} {k:Nat}:FnOk P w K mg base CX0 k f fd ps (z1h K 0):=z16 fun vs H Q E ⟨v,l,_,_,h,_⟩=>by omega
end
mutual
def plS:PyData->Bool
 | .int _=>true
 | .str x=>PyData.strOk x
 | .tuple ds=>plSs ds
 | _=>false
def plSs:List PyData->Bool
 | []=>true
 | d::ds=>plS d&&plSs ds
end
mutual
theorem zfs:∀ d:PyData,plS d=true->d.canLay0=true
 | .int _,_=>by simp [PyData.canLay0]
 | .str _,h=>by rw [plS] at h; rw [PyData.canLay0]; exact h
 | .tuple ds,h=>by rw [plS] at h; rw [PyData.canLay0]; exact z25 ds h
 | .none,h=>by simp [plS] at h
 | .bool _,h=>by simp [plS] at h
 | .list _,h=>by simp [plS] at h
 | .dict _,h=>by simp [plS] at h
theorem z25:∀ ds:List PyData,plSs ds=true->PyData.canLayAll0 ds=true
 | [],_=>by simp [PyData.canLayAll0]
 | d::ds,h=>by
  rw [plSs,Bool.and_eq_true] at h
  rw [PyData.canLayAll0,zfs d h.1,z25 ds h.2]; rfl
end
namespace Gr
theorem plSs_encs {C:Int}:∀ {g:Gr},g.Ok C->plSs g.encs=true
 | .nil,_=>by simp [encs,plSs]
 | .cons k g m r,⟨h0,h1,_,_,h4,_⟩=>by
  have e1:=plSs_encs h1
  have e2:=plSs_encs h4
  simp [encs,plSs,plS,e1,e2,strOk_name h0]
end Gr
namespace Gr
def tgt (g k:Gr):Gr:=tidy (g.ps++k.ps)
theorem tgt_ps (g k:Gr):(tgt g k).ps=tdy tEnc (g.ps++k.ps):=ps_ofPs _
theorem tgt_parts (g k:Gr):(tgt g k).parts<=g.parts+k.parts:=by
 have:=tidy_parts (g.ps++k.ps)
 rw [tot_append,tot_ps,tot_ps] at this
 exact this
/-- how many of a tree -/
abbrev S (g:Gr) (t:Tr):Int:=sumE g.ps t
theorem S_tgt (g k:Gr) (t:Tr):S (tgt g k) t=S g t+S k t:=by
 show sumE (tgt g k).ps t=_
 rw [tgt_ps,z7e,z0t]
theorem S_zero {bs:List (Tr × Int)} {t:Tr} (h:∀ p ∈ bs,p.1 ≠ t):sumE bs t=0:=by
 induction bs with
 | nil=>rfl
 | cons p r ih =>
  show (if p.1=t then p.2 else 0)+sumE r t=0
  rw [if_neg (h p (mcs ..)),ih fun q hq=>h q (mcm _ hq)]; rfl
/-- two right groves with as many of each tree are the same -/
theorem ext_ps:∀ {as bs:List (Tr × Int)},as.Pairwise (fun p q=>dataLt (tEnc p.1) (tEnc q.1)=true)->bs.Pairwise (fun p q=>dataLt (tEnc p.1) (tEnc q.1)=true)->(∀ p ∈ as,1<=p.2)->(∀ p ∈ bs,1<=p.2)->(∀ t,sumE as t=sumE bs t)->as=bs
 | [],[],_,_,_,_,_=>rfl
 | [],b::bs,_,h2,_,p2,h=>by
  have:=h b.1
  have hz:sumE bs b.1=0:=S_zero fun q hq z=>by have:=(List.pairwise_cons.mp h2).1 q hq; rw [z,z14] at this; cases this
  have e:sumE (b::bs) b.1=b.2+sumE bs b.1:=by show (if b.1=b.1 then b.2 else 0)+_=_; rw [if_pos rfl]
  rw [e,hz] at this
  have:=p2 b (mcs ..)
  have z:sumE ([]:List (Tr × Int)) b.1=0:=rfl
  omega
 | a::as,[],h1,_,p1,_,h=>by
  have:=h a.1
  have hz:sumE as a.1=0:=S_zero fun q hq z=>by have:=(List.pairwise_cons.mp h1).1 q hq; rw [z,z14] at this; cases this
  have e:sumE (a::as) a.1=a.2+sumE as a.1:=by show (if a.1=a.1 then a.2 else 0)+_=_; rw [if_pos rfl]
  rw [e,hz] at this
  have:=p1 a (mcs ..)
  have z:sumE ([]:List (Tr × Int)) a.1=0:=rfl
  omega
 | a::as,b::bs,h1,h2,p1,p2,h=>by
  obtain ⟨a1,a2⟩:=List.pairwise_cons.mp h1
  obtain ⟨b1,b2⟩:=List.pairwise_cons.mp h2
  have pa:=p1 a (mcs ..)
  have pb:=p2 b (mcs ..)
  have za:∀ t,(t=a.1\/dataLt (tEnc t) (tEnc a.1)=true)->sumE as t=0:=fun t ht=>S_zero fun q hq z=>by
   have q1:=a1 q hq
   rw [z] at q1
   rcases ht with ht | ht
   ·rw [ht,z14] at q1; cases q1
   ·rw [z4b ht] at q1; cases q1
  have zb:∀ t,(t=b.1\/dataLt (tEnc t) (tEnc b.1)=true)->sumE bs t=0:=fun t ht=>S_zero fun q hq z=>by
   have q1:=b1 q hq
   rw [z] at q1
   rcases ht with ht | ht
   ·rw [ht,z14] at q1; cases q1
   ·rw [z4b ht] at q1; cases q1
  have ea:∀ t,sumE (a::as) t=(if a.1=t then a.2 else 0)+sumE as t:=fun t=>rfl
  have eb:∀ t,sumE (b::bs) t=(if b.1=t then b.2 else 0)+sumE bs t:=fun t=>rfl
  have hab:a.1=b.1:=by
   by_cases e:a.1=b.1
   ·exact e
   ·exfalso
    cases hlt:dataLt (tEnc a.1) (tEnc b.1) with
    | true =>
     have:=h a.1
     rw [ea,eb,if_pos rfl,if_neg (fun z=>e z.symm),za _ (.inl rfl),zb _ (.inr hlt)] at this
     omega
    | false =>
     have hlt2:=z6r (enc:=tEnc) e hlt
     have:=h b.1
     rw [ea,eb,if_pos rfl,if_neg e,zb _ (.inl rfl),za _ (.inr hlt2)] at this
     omega
  have hm:a.2=b.2:=by
   have:=h a.1
   rw [ea,eb,if_pos rfl,if_pos hab.symm,za _ (.inl rfl),zb _ (.inl hab)] at this
   omega
  have he:a=b:=Prod.ext hab hm
  subst he
  rw [ext_ps a2 b2 (fun p hp=>p1 p (mcm _ hp)) (fun p hp=>p2 p (mcm _ hp)) fun t=>by have:=h t; rw [ea,eb] at this; omega]
theorem ext {C D:Int} {g k:Gr} (hg:g.Ok C) (hk:k.Ok D) (h:∀ t,S g t=S k t):g=k:=by
 have h1:=ok_iff.mp hg
 have h2:=ok_iff.mp hk
 have:=ext_ps h1.2 h2.2 (fun p hp=>(h1.1 p hp).2.2.1) (fun p hp=>(h2.1 p hp).2.2.1) h
 rw [<- ofPs_ps g,<- ofPs_ps k,this]
end Gr
theorem z8y {n:Nat} (h:n<=1000000):n < sizeLine:=by
 have:sizeLine=16777216:=sizeLine_eq
 omega
/-- the head of a law over groves: a head's purse,names,and what is kept -/
structure Hd (K:PySem.W.Frag) (H H3:Hp) (p0 nm:Addr) (ks:List Str):Prop where
 hp:PuG H3 p0
 hnm:H3 nm=some (.lst (ks.map V.str))
 k1:1<=ks.length
 k8:ks.length<=8
 kn:∀ k ∈ ks,z01 k
 ne:nm ≠ p0
 sb:SB [p0] H H3
 np:H p0=none
theorem Hd.step {K:PySem.W.Frag} {H H3 H4:Hp} {p0 nm:Addr} {ks:List Str} (h:Hd K H H3 p0 nm ks) (s:SB [p0] H3 H4) (hp:PuG H4 p0):Hd K H H4 p0 nm ks :=
 ⟨hp,s.keep _ _ h.hnm (by simpa using h.ne),h.k1,h.k8,h.kn,h.ne,h.sb.trans s,h.np⟩
open PySem.Sem in
theorem zbm {v:Value} {o:Obj} {Hh:Heap->Prop} (Bg:Begins v o Hh) :
  Meets (Builtin.«enumerate.__new__» ⟨[.type "enumerate",v],[]⟩) (fun _ R s=>Hh s.heap/\R (.ok (.ret (.ref (s.heap.push o).objs.size))) { s with heap:=(s.heap.push o).push { cls:=.type "enumerate",data:=.fields #[.none,.bool false,.ref s.heap.objs.size,rawInt 0,.none,.none] } }) :=
 .of_wp fun prog w A R s h=>by
  obtain ⟨hp,g,d,tk,os⟩:=s
  obtain ⟨h1,h⟩:=h
  have hsub:=sub_enumerate
  have go:∀ {A2:Around} {E2:Value->Shared->Prop} {Q2:Value->Shared->Prop},Q2 (.ref hp.objs.size) ⟨hp.push o,g,d,tk,os⟩->wpAny (model prog w) A2 (pyIter v) Q2 E2 ⟨hp,g,d,tk,os⟩:=fun z=>Bg.iter prog w _ _ ⟨hp,g,d,tk,os⟩ _ h1 z
  wp_walk using go
  refine wpAny_stack_any fun stk=>wpAny_pure ?_
  split
  ·rename_i cl _ _ _ _ _
   cases (cl == Value.type "enumerate") <;> (wp_walk using go; exact ⟨_,rfl,h⟩)
  ·wp_walk using go; exact ⟨_,rfl,h⟩
section
variable {prog:Program} {w:World} {A:Around} {E:Value->Shared->Prop} {s:Shared}
theorem za5 {t:Addr} {items:Array Value} {Q:Value->Shared->Prop} (hT:s.heap.IsTuple t items)
  (h:∀ h2,IsEnum h2 (s.heap.objs.size+1) s.heap.objs.size 0 .none->h2.IsTupleIter s.heap.objs.size t 0->(∀ b ob,s.heap.get? b=some ob->h2.get? b=some ob)->Q (.ref (s.heap.objs.size+1)) { s with heap:=h2 }):wpAny (model prog w) A (call (.type "enumerate") [.ref t]) Q E s:=by
 have Bg:=begins_tuple t items
 refine callType_new F.called_enumerate (by decide) (F.typeCall_enumerate_1 _) (F.newCall_enumerate_1 _) (fun ob=>F.args_object_init_2 ob _) F.entry_enumerate_new (zbm Bg) ⟨hT,?_⟩
 have hz:(s.heap.push { cls:=.type "tuple_iterator",data:=.fields #[.ref t,.int 0 0] }).objs.size=s.heap.objs.size+1:=Heap.size_push ..
 show _/\_
 rw [hz]
 have he:IsEnum ((s.heap.push { cls:=.type "tuple_iterator",data:=.fields #[.ref t,.int 0 0] }).push { cls:=.type "enumerate",data:=.fields #[.none,.bool false,.ref s.heap.objs.size,rawInt 0,.none,.none] }) (s.heap.objs.size+1) s.heap.objs.size 0 .none:=by
  have z:=Heap.get?_push_size (s.heap.push { cls:=.type "tuple_iterator",data:=.fields #[.ref t,.int 0 0] }) (o:={ cls:=.type "enumerate",data:=.fields #[.none,.bool false,.ref s.heap.objs.size,rawInt 0,.none,.none] }) rfl
  rw [hz] at z
  exact z
 exact ⟨⟨_,he,rfl⟩,h _ he ⟨_,Heap.get?_push_of_some _ (Heap.get?_push_size _ rfl),rfl,rfl⟩ fun b ob x=>Heap.get?_push_of_some _ (Heap.get?_push_of_some _ x)⟩
end
/-- the tuple at a,each item in a new pair with its number -/
def IteT (K:PySem.W.Frag) (a:Addr):It :=
 ⟨fun i H=>∃ (xs:List V) (x:V),SqT K H a xs/\xs[i]?=some x,
  fun i H v H2=>∃ T x,v=.ref T/\H T=none/\H2=upd H T (.tup [.int (i:Nat),x])/\∀ xs,SqT K H a xs->xs[i]?=some x,
  fun i H=>∃ xs:List V,SqT K H a xs/\xs.length=i⟩
theorem za9 {P:Program} {w:World} {K:PySem.W.Frag} {elts:List Expr} {kk:Nat} {tpos:Pos} (a e it:Addr) (hei:e ≠ it) (hai:a ≠ it) (hea:e ≠ a) :
  Turn P w K (.Tuple elts kk tpos) (IteT K a) [e,it] e (fun i h=>(∃ old,IsEnum h e it ((i:Nat):Int) old)/\h.IsTupleIter it a i) where
 mem:=by simp
 obj:=fun i h st b hb=>by
  obtain ⟨⟨old,he⟩,o,ho,hc,hd⟩:=st
  rcases (show b=e\/b=it by simpa using hb) with z | z
  ·rw [z]; exact ⟨_,he,fun v q=>nomatch q⟩
  ·rw [z]; exact ⟨o,ho,fun v q=>by rw [hd] at q; cases q⟩
 keep:=fun i h h2 st k=>let ⟨⟨old,he⟩,o,ho,r⟩:=st; ⟨⟨old,k e (by simp) _ he⟩,o,k it (by simp) o ho,r⟩
 item:=by
  intro X hP hw hK hc i pins s σ H E I hf st hg
  subst hP hw hK
  obtain ⟨⟨old,he⟩,hit⟩:=st
  obtain ⟨xs,x,hq,hx⟩:=hg
  obtain ⟨its,rv,p,hz⟩:=I.tuple hq
  obtain ⟨u,hu,ru⟩:=rv.get hx
  have hel:e < s.heap.objs.size:=Heap.lt_size he
  have hil:it < s.heap.objs.size:=by obtain ⟨_,z,_⟩:=hit; exact Heap.lt_size z
  have Dr:=Draws.tuple (prog:=X.prog) (w:=X.w) (A:=X.A.in1) (I.ok.hd hc) it a hai its.toArray
  have hlt:i < its.toArray.size:=by
   have:=(List.getElem?_eq_some_iff.mp hu).1
   simpa using this
  refine wpAny_pyNext_enum_itemD Dr he ⟨hit,p⟩ hlt hei (by simp [hei,hea]) fun y h2 tk hy ho hst hT hsz hk=>?_
  have hyu:y=u:=by
   have h3:its[i]?=some y:=by simpa using hy
   rw [hu] at h3; exact (Option.some.inj h3).symm
  subst hyu
  refine ⟨_,rfl,wpAny_letOwnedTupleGo_enum (s:={ s with heap:=h2,toks:=tk+1 }) ho fun h3 he3 sb=>?_⟩
  have hT2:h3.get? s.heap.objs.size=some { cls:=.type "tuple",data:=.seq #[.int i tk,y] }:=(sb.2 _ (Nat.ne_of_gt hel)).trans hT
  have nw:ObjOk X.prog X.w (upd H s.heap.objs.size (.tup [.int (i:Nat),x])) h3 s.heap.objs.size (.tup [.int (i:Nat),x]):=⟨by show 2<=sizeLine; decide,[.int i tk,y],.cons ⟨_,rfl⟩ (.cons ru .nil),⟨_,hT2,rfl,_,rfl⟩⟩
  have I1:Inv X pins σ (upd H s.heap.objs.size (.tup [.int (i:Nat),x])) { s with heap:=h3,toks:=tk+1 }:=I.turnedNew (ch:=[e,it]) (fun b ob hb z=>(sb.2 b (fun y=>hb (by simp [y]))).trans (hk b ob (fun y=>hb (by simp [y])) (fun y=>hb (by simp [y])) z)) hf (Nat.le_refl _) nw
  refine ⟨.ref s.heap.objs.size,_,I1,rfl,⟨_,x,rfl,I.hok.fresh (Nat.le_refl _),rfl,fun ys hy=>by rw [I.tuple_inj hy hq]; exact hx⟩,⟨⟨y,?_⟩,?_⟩,fun b hb=>?_⟩
  ·rw [show ((i+1:Nat):Int)=(i:Int)+1 by omega]; exact he3
  ·obtain ⟨o,ho2,r⟩:=hst.1
   exact ⟨o,(sb.2 it (Ne.symm hei)).trans ho2,r⟩
  ·have hb2:b < s.heap.objs.size:=by
    rcases (show b=e\/b=it by simpa using hb) with z | z
    ·rw [z]; exact hel
    ·rw [z]; exact hil
   rw [upd_ne (Nat.ne_of_lt hb2)]; exact (hf b hb).1
 done:=by
  intro X hP hw hK hc i pins s σ H E I hf st hg
  subst hP hw hK
  obtain ⟨⟨old,he⟩,hit⟩:=st
  obtain ⟨xs,hq,hx⟩:=hg
  obtain ⟨its,rv,p,hz⟩:=I.tuple hq
  obtain ⟨f0,f1,f2,f3,f4,f5⟩:=hf it (by simp)
  have hl:=rv.length
  have ht:s.heap.IsTuple a its.toArray:=p
  have Dr:=Draws.tuple (prog:=X.prog) (w:=X.w) (A:=X.A.in1) (I.ok.hd hc) it a hai its.toArray
  have hn:its.toArray.size=i:=by simp; omega
  refine wpAny_pyNext_enum_endD Dr he ⟨by rw [hn]; exact hit,ht⟩ fun h2 eb=>⟨rfl,I.turned (t':=s.toks) (fun b o hb z=>eb b o hb z) f0 f1 f3 f4 f5⟩
 self:=fun A i s Q E st h=>let ⟨⟨_,he⟩,_⟩:=st; wpAny_pyIter_enum he h
def ziy (K:PySem.W.Frag) (te:TE):TI:=fun σ H R=>te σ H fun v H1=>∃ a xs,v=.ref a/\SqT K H1 a xs/\R (IteT K a) H1
theorem zcy {X:Cx} {ex:Expr} {te:TE} {p pos tpos:Pos} {elts:List Expr} {kk:Nat} (hg:Gl X "enumerate") (hm:X.mg "enumerate"=none) (he:PE X ex te) (hs:starEach [ex] X.env=(false,eval ex X.env)::starEach [] X.env:=by rfl) :
  PI X (.Tuple elts kk tpos) (.Call (.Name "enumerate" p) [ex] [] pos) (ziy X.K te):=by
 refine ⟨fun pins s σ H R I h=>?_⟩
 refine Call_ (ld_blt I hg hm boot_enumerate (PyProof.Rows.callWith_type1 (args_cons (thn (he.run pins s σ H _ I h) fun u s1 ⟨v,H1,I1,r1,q1⟩=>args_nil ?_) hs) hs rfl))
 obtain ⟨a,xs,ev,hq,q⟩:=q1
 subst ev
 cases r1
 obtain ⟨its,rv,pt,hz⟩:=I1.tuple hq
 have ht:s1.heap.IsTuple a its.toArray:=pt
 have hal:a < s1.heap.objs.size:=by obtain ⟨_,z,_⟩:=ht; exact Heap.lt_size z
 refine za5 ht fun h2 he2 hit hk=>wpAny_pyIter_enum he2 ?_
 have I2:Inv X pins σ H1 { s1 with heap:=h2 }:=I1.kept (t':=s1.toks) hk
 refine ⟨s1.heap.objs.size+1,[s1.heap.objs.size+1,s1.heap.objs.size],_,_,H1,rfl,I2,za9 a (s1.heap.objs.size+1) s1.heap.objs.size (Nat.succ_ne_self _) (Nat.ne_of_lt hal) (Nat.ne_of_gt (Nat.lt_succ_of_lt hal)),⟨⟨.none,he2⟩,hit⟩,fun b hb=>?_,q⟩
 have hle:s1.heap.objs.size<=b:=by
  rcases (show b=s1.heap.objs.size+1\/b=s1.heap.objs.size by simpa using hb) with z | z
  ·rw [z]; exact Nat.le_add_right _ _
  ·rw [z]; exact Nat.le_refl _
 exact I1.fpOk hle (I1.hok.fresh hle)
theorem zaq {K:PySem.W.Frag} {a:Addr} {xs:List V}:Walk (IteT K a) xs.length (fun H=>SqT K H a xs) (YPair (fun i=>some (.int (i:Nat))) (fun i=>xs[i]?)):=by
 refine ⟨fun i _ hi q=>⟨xs,xs[i],q,by simp [hi]⟩,fun _ q=>⟨xs,q,rfl⟩,fun i H v H2 _ q y=>?_⟩
 obtain ⟨T,x,h1,h2,h3,h4⟩:=y
 exact ⟨T,.int (i:Nat),x,h1,h2,h3,rfl,h4 xs q⟩
abbrev Pl:=List Nat
def z0i (p:Pl):List PyData:=p.map fun n:Nat=>.int (n:Int)
def z19 (p:Pl):PyData:=.tuple (z0i p)
theorem z7q:∀ p q:Pl,alikeAll (z0i p) (z0i q)=true
 | [],_=>by simp [z0i,alikeAll]
 | _::_,[]=>by simp [z0i,alikeAll]
 | a::p,b::q=>by
  have:=z7q p q
  show alikeAll (.int a::z0i p) (.int b::z0i q)=true
  simp [alikeAll,alike,this]
theorem z9y:∀ p q:Pl,PyData.eqvAll (z0i p) (z0i q)=decide (p=q)
 | [],[]=>by simp [z0i,PyData.eqvAll]
 | [],_::_=>by simp [z0i,PyData.eqvAll]
 | _::_,[]=>by simp [z0i,PyData.eqvAll]
 | a::p,b::q=>by
  have ih:=z9y p q
  show PyData.eqvAll (.int a::z0i p) (.int b::z0i q)=_
  simp only [PyData.eqvAll,PyData.eqv,ih,ib]
  by_cases h:a=b
  ·subst h; simp
  ·have:¬ ((a:Int)=(b:Int)):=by omega
   simp [h,this]
instance:Orderly z19 where
 al a b:=by show alike (.tuple _) (.tuple _)=true; rw [alike]; exact z7q a b
 eq a b:=by show PyData.eqv (.tuple _) (.tuple _)=_; rw [PyData.eqv]; exact z9y a b
theorem z0l (p:Pl):z03 (z19 p)=true:=by
 have:∀ p:Pl,z06 (z0i p)=true:=by
  intro p
  induction p with
  | nil=>simp [z0i,z06]
  | cons a r ih=>show z06 (.int a::z0i r)=true; simp [z06,z03,ih]
 show z03 (.tuple _)=true
 rw [z03]; exact this p
theorem z9k {K:PySem.W.Frag} {H:Hp} {v:V} {p:Pl} (h:Dp K H v (z19 p)):∃ a,v=.ref a/\SqT K H a (p.map fun n:Nat=>V.int (n:Int)):=by
 have key:∀ {p:Pl} {xs:List V},DpAll K H xs (z0i p)->xs=p.map fun n:Nat=>V.int (n:Int):=by
  intro p
  induction p with
  | nil=>intro xs h; cases h; rfl
  | cons a r ih =>
   intro xs h
   cases h with
   | cons h1 h2=>cases h1; rw [ih h2]; rfl
 cases h with
 | tup hs ha=>rw [key ha] at hs; exact ⟨_,rfl,hs⟩
theorem zdx {K:PySem.W.Frag} {H:Hp} {a:Addr} {p:Pl} (h:SqT K H a (p.map fun n:Nat=>V.int (n:Int))):Dp K H (.ref a) (z19 p):=by
 refine Dp.tup h ?_
 have key:∀ p:Pl,DpAll K H (p.map fun n:Nat=>V.int (n:Int)) (z0i p):=by
  intro p
  induction p with
  | nil=>exact .nil
  | cons a r ih=>exact .cons (.int _) ih
 exact key p
/-- a thing in a place: which whole number it is,if it is one -/
def Wh (K:PySem.W.Frag) (H:Hp) (v:V) (o:Option Int):Prop:=(∃ i,v=.int i/\o=some i)\/(o=none/\∃ (n:String) (b1 b2:Bool),TyX K H v (.type n)/\kitB n "int"=some b1/\(b1=true->kitB n "bool"=some b2)/\(b1&&!b2)=false)
inductive Whs (K:PySem.W.Frag) (H:Hp):List V->List (Option Int)->Prop where
 | nil:Whs K H [] []
 | cons {v:V} {o:Option Int} {vs:List V} {os:List (Option Int)}:Wh K H v o->Whs K H vs os->Whs K H (v::vs) (o::os)
section
variable {K:PySem.W.Frag} {H H':Hp}
theorem Whs.length:∀ {vs:List V} {os:List (Option Int)},Whs K H vs os->vs.length=os.length
 | _,_,.nil=>rfl
 | _,_,.cons _ h=>congrArg (·+1) h.length
theorem Whs.get:∀ {vs:List V} {os:List (Option Int)},Whs K H vs os->∀ {i:Nat} {v:V},vs[i]?=some v->∃ o,os[i]?=some o/\Wh K H v o
 | _,_,.nil,i,v,e=>by simp at e
 | _,_,.cons (o:=o) h hs,0,v,e=>by
  have:_=v:=Option.some.inj e
  subst this; exact ⟨o,rfl,h⟩
 | _,_,.cons h hs,i+1,v,e=>hs.get (i:=i) e
theorem Whs.append:∀ {vs us:List V} {os ps:List (Option Int)},Whs K H vs os->Whs K H us ps->Whs K H (vs++us) (os++ps)
 | _,_,_,_,.nil,h=>h
 | _,_,_,_,.cons a b,h=>.cons a (b.append h)
theorem Wh.sb {v:V} {o:Option Int} (h:Wh K H v o) (e:SB [] H H'):Wh K H' v o:=by
 rcases h with h | ⟨h,n,b1,b2,ty,k⟩
 ·exact .inl h
 ·exact .inr ⟨h,n,b1,b2,z2u e (fun _ _=>nmn) ty,k⟩
theorem Whs.sb (e:SB [] H H'):∀ {vs:List V} {os:List (Option Int)},Whs K H vs os->Whs K H' vs os
 | _,_,.nil=>.nil
 | _,_,.cons h hs=>.cons (h.sb e) (Whs.sb e hs)
def plO (p:Pl):List (Option Int):=p.map fun n:Nat=>some (n:Int)
theorem Whs.pl (K:PySem.W.Frag) (H:Hp):∀ p:Pl,Whs K H (p.map fun n:Nat=>V.int (n:Int)) (plO p)
 | []=>.nil
 | n::r=>.cons (.inl ⟨_,rfl,rfl⟩) (Whs.pl K H r)
end
def stp (g:Gr):Option Int->Option Tr
 | none=>none
 | some n=>if 0<=n then (g.ps[n.toNat]?).map (·.1) else none
def lk:Tr->List (Option Int)->Option Tr
 | t,[]=>some t
 | t,o::r=>(stp t.2 o).bind fun u=>lk u r
theorem z4z:∀ (t:Tr) (as bs:List (Option Int)),lk t (as++bs)=(lk t as).bind fun u=>lk u bs
 | t,[],bs=>rfl
 | t,o::r,bs=>by
  show (stp t.2 o).bind (fun u=>lk u (r++bs))=((stp t.2 o).bind fun u=>lk u r).bind fun u=>lk u bs
  cases stp t.2 o with
  | none=>rfl
  | some u=>exact z4z u r bs
theorem zfu {t:Tr} {os:List (Option Int)} {i:Nat} {o:Option Int} {u:Tr} (h1:lk t (os.take i)=some u) (h2:os[i]?=some o) (h3:stp u.2 o=none):lk t os=none:=by
 have hl:i < os.length:=(List.getElem?_eq_some_iff.mp h2).1
 have e:os=os.take i++o::os.drop (i+1):=by
  have:=List.drop_eq_getElem_cons hl
  rw [(List.getElem?_eq_some_iff.mp h2).2] at this
  rw [<- this,List.take_append_drop]
 rw [e,z4z,h1]
 show (stp u.2 o).bind _=none
 rw [h3]; rfl
theorem zfx {t:Tr} {os:List (Option Int)} {i:Nat} {o:Option Int} {u x:Tr} (h1:lk t (os.take i)=some u) (h2:os[i]?=some o) (h3:stp u.2 o=some x):lk t (os.take (i+1))=some x:=by
 rw [List.take_add_one,h2,z4z,h1]
 show (stp u.2 o).bind _=some x
 rw [h3]; rfl
/-- the tree at a place,or an error of the class at C -/
def z3f (K:PySem.W.Frag) (C:Addr):Sp:=fun vs H Q E=>∃ (v:V) (g:Gr) (a:Addr) (xs:List V) (os:List (Option Int)),vs=[v,.ref a]/\GA K H v g/\SqT K H a xs/\Whs K H xs os /\
 (∀ t,os ≠ []->lk ("",g) os=some t->∀ (x:V) (H':Hp),SB [] H H'->Dp K H' x (Gr.tEnc t)->Q x H')/\((os=[]\/lk ("",g) os=none)->∀ H',SB [] H H'->E (.ref C) none H')
mutual
inductive Tg (K:PySem.W.Frag) (H:Hp):V->PyData->Prop
 | int (i:Int):Tg K H (.int i) (.int i)
 | str (z:Str):z.length<=1000->Tg K H (.str z) (.str z)
 | tup {a:Addr} {xs:List V} {ds:List PyData}:SqT K H a xs->TgAll K H xs ds->Tg K H (.ref a) (.tuple ds)
 | oth {v:V} {n:String}:TyX K H v (.type n)->kitB n "tuple"=some false->kitB n "str"=some false->(kitB n "int"=some false\/n="bool")->Tg K H v .none
inductive TgAll (K:PySem.W.Frag) (H:Hp):List V->List PyData->Prop
 | nil:TgAll K H [] []
 | cons {v:V} {vs:List V} {d:PyData} {ds:List PyData}:Tg K H v d->TgAll K H vs ds->TgAll K H (v::vs) (d::ds)
end
mutual
/-- the same without its texts -/
def z1q:PyData->PyData
 | .int i=>.int i
 | .tuple ds=>.tuple (z4u ds)
 | _=>.none
def z4u:List PyData->List PyData
 | []=>[]
 | d::r=>z1q d::z4u r
end
theorem z6v (d:PyData):z0q (z1q d)=z0q d:=by cases d <;> simp [z1q,z0q]
section
variable {K:PySem.W.Frag} {H H':Hp}
mutual
theorem Tg.th:∀ {v:V} {d:PyData},Tg K H v d->Th K [] H v (z1q d)
 | _,_,.int i=>by rw [z1q]; exact .int i
 | _,_,.str z _=>by rw [z1q] <;> first | exact .oth (.base (.str z)) (by decide +kernel) (.inl (by decide +kernel)) (fun _ _=>nmn) | simp
 | _,_,.tup hs ha=>by rw [z1q]; exact .tup hs (TgAll.th ha)
 | _,_,.oth ty k1 _ k2=>by rw [z1q] <;> first | exact .oth ty k1 k2 (fun _ _=>nmn) | simp
theorem TgAll.th:∀ {vs:List V} {ds:List PyData},TgAll K H vs ds->ThAll K [] H vs (z4u ds)
 | _,_,.nil=>by rw [z4u]; exact .nil
 | _,_,.cons h t=>by rw [z4u]; exact .cons (Tg.th h) (TgAll.th t)
end
mutual
theorem z1p (e:SB [] H H'):∀ {v:V} {d:PyData},Tg K H v d->Tg K H' v d
 | _,_,.int i=>.int i
 | _,_,.str z hz=>.str z hz
 | _,_,.tup hs ha=>.tup (e.sqT hs) (z6p e ha)
 | _,_,.oth ty k0 k1 k2=>.oth (z2u e (fun _ _=>nmn) ty) k0 k1 k2
theorem z6p (e:SB [] H H'):∀ {vs:List V} {ds:List PyData},TgAll K H vs ds->TgAll K H' vs ds
 | _,_,.nil=>.nil
 | _,_,.cons h t=>.cons (z1p e h) (z6p e t)
end
theorem TgAll.length:∀ {vs:List V} {ds:List PyData},TgAll K H vs ds->vs.length=ds.length
 | _,_,.nil=>rfl
 | _,_,.cons _ t=>by rw [List.length_cons,List.length_cons,TgAll.length t]
theorem TgAll.get:∀ {vs:List V} {ds:List PyData} {i:Nat} {v:V},TgAll K H vs ds->vs[i]?=some v->∃ d,ds[i]?=some d/\Tg K H v d
 | _,_,_,_,.nil,e=>by simp at e
 | _,_,0,_,.cons h t,e=>by simp at e; subst e; exact ⟨_,rfl,h⟩
 | _,_,i+1,v,.cons h t,e=>by
  obtain ⟨d,h1,h2⟩:=TgAll.get (i:=i) (v:=v) t (by simpa using e)
  exact ⟨d,by simpa using h1,h2⟩
theorem Tg.ty {v:V} {d:PyData} (h:Tg K H v d):∃ n b,TyX K H v (.type n)/\kitB n "tuple"=some b/\(b=true->∃ a xs ds,v=.ref a/\d=.tuple ds/\SqT K H a xs/\TgAll K H xs ds)/\(b=false->∀ ds,d ≠ .tuple ds):=by
 cases h with
 | int i=>exact ⟨"int",false,.base (.int i),by decide +kernel,fun z=>(nomatch z),fun _ ds z=>nomatch z⟩
 | str z hz=>exact ⟨"str",false,.base (.str z),by decide +kernel,fun z=>(nomatch z),fun _ ds z=>nomatch z⟩
 | tup hs ha=>exact ⟨"tuple",true,(z32 hs),by decide +kernel,fun _=>⟨_,_,_,rfl,rfl,hs,ha⟩,fun z=>(nomatch z)⟩
 | oth ty k1 _ k2=>exact ⟨_,false,ty,k1,fun z=>(nomatch z),fun _ ds z=>nomatch z⟩
theorem Tg.txt {v:V} {d:PyData} (h:Tg K H v d):∃ n b,TyX K H v (.type n)/\kitB n "str"=some b/\(b=true->∃ z,v=.str z/\d=.str z/\z.length<=1000)/\(b=false->∀ z,d ≠ .str z):=by
 cases h with
 | int i=>exact ⟨"int",false,.base (.int i),by decide +kernel,fun z=>(nomatch z),fun _ ds z=>nomatch z⟩
 | str z hz=>exact ⟨"str",true,.base (.str z),by decide +kernel,fun _=>⟨z,rfl,rfl,hz⟩,fun z=>(nomatch z)⟩
 | tup hs ha=>exact ⟨"tuple",false,(z32 hs),by decide +kernel,fun z=>(nomatch z),fun _ ds z=>nomatch z⟩
 | oth ty _ k1 k2=>exact ⟨_,false,ty,k1,fun z=>(nomatch z),fun _ ds z=>nomatch z⟩
end
instance (z:Str):Decidable (z01 z):=inferInstanceAs (Decidable (_/\_/\_))
def z15:PyData->Bool
 | .str z=>decide (z01 z)
 | _=>false
mutual
def z09:PyData->Bool
 | .tuple ds=>grPs ds&&z39 (ds.map exp0)
 | _=>false
def grPs:List PyData->Bool
 | []=>true
 | d::ds=>grP d&&grPs ds
def grP:PyData->Bool
 | .tuple ds=>grP2 ds
 | _=>false
def grP2:List PyData->Bool
 | []=>false
 | t::r=>z0g t&&z0u r
def z0g:PyData->Bool
 | .tuple ds=>trD2 ds
 | _=>false
def trD2:List PyData->Bool
 | []=>false
 | k::r=>z15 k&&trD3 r
def trD3:List PyData->Bool
 | []=>false
 | g::r=>z09 g&&r.isEmpty
end
theorem zbs {r:List PyData} (h:z0u r=true):∃ i,r=[.int i]/\(1:Int)<=i:=by
 match r,h with
 | [],h=>simp [z0u] at h
 | .int i::[],h=>simp [z0u,z0q] at h; exact ⟨i,rfl,h⟩
 | .int i::_::_,h=>simp [z0u] at h
 | .none::_,h=>simp [z0u,z0q] at h
 | .bool _::_,h=>simp [z0u,z0q] at h
 | .str _::_,h=>simp [z0u,z0q] at h
 | .list _::_,h=>simp [z0u,z0q] at h
 | .dict _::_,h=>simp [z0u,z0q] at h
 | .tuple _::_,h=>simp [z0u,z0q] at h
theorem z4t {d:PyData} (h:z15 d=true):∃ z,d=.str z/\z01 z:=by
 cases d with
 | str z=>exact ⟨z,rfl,of_decide_eq_true h⟩
 | _=>simp [z15] at h
mutual
theorem z4q:∀ d:PyData,z09 d=true->∃ g:Gr,d=g.enc
 | .tuple ds,h=>by
  rw [z09,Bool.and_eq_true] at h
  obtain ⟨g,e⟩:=z6j ds h.1
  exact ⟨g,by rw [e]; rfl⟩
 | .none,h=>by simp [z09] at h
 | .bool _,h=>by simp [z09] at h
 | .int _,h=>by simp [z09] at h
 | .str _,h=>by simp [z09] at h
 | .list _,h=>by simp [z09] at h
 | .dict _,h=>by simp [z09] at h
theorem z6j:∀ ds:List PyData,grPs ds=true->∃ g:Gr,ds=g.encs
 | [],_=>⟨.nil,rfl⟩
 | d::ds,h=>by
  rw [grPs,Bool.and_eq_true] at h
  obtain ⟨r,er⟩:=z6j ds h.2
  obtain ⟨t,i,ed,he⟩:=z76 d h.1
  exact ⟨.cons t.1 t.2 i r,by rw [er,ed]; rfl⟩
theorem z76:∀ d:PyData,grP d=true->∃ (t:Tr) (i:Int),d=.tuple [Gr.tEnc t,.int i]/\(1:Int)<=i
 | .tuple ds,h=>by
  rw [grP] at h
  obtain ⟨e,i,ed,he⟩:=zcj ds h
  exact ⟨e,i,by rw [ed],he⟩
 | .none,h=>by simp [grP] at h
 | .bool _,h=>by simp [grP] at h
 | .int _,h=>by simp [grP] at h
 | .str _,h=>by simp [grP] at h
 | .list _,h=>by simp [grP] at h
 | .dict _,h=>by simp [grP] at h
theorem zcj:∀ ds:List PyData,grP2 ds=true->∃ (t:Tr) (i:Int),ds=[Gr.tEnc t,.int i]/\(1:Int)<=i
 | [],h=>by simp [grP2] at h
 | d::r,h=>by
  rw [grP2,Bool.and_eq_true] at h
  obtain ⟨t,et⟩:=z8u d h.1
  obtain ⟨i,er,hi⟩:=zbs h.2
  exact ⟨t,i,by rw [et,er],hi⟩
theorem z8u:∀ d:PyData,z0g d=true->∃ t:Tr,d=Gr.tEnc t
 | .tuple ds,h=>by
  rw [z0g] at h
  obtain ⟨t,et⟩:=zc8 ds h
  exact ⟨t,by rw [et]; rfl⟩
 | .none,h=>by simp [z0g] at h
 | .bool _,h=>by simp [z0g] at h
 | .int _,h=>by simp [z0g] at h
 | .str _,h=>by simp [z0g] at h
 | .list _,h=>by simp [z0g] at h
 | .dict _,h=>by simp [z0g] at h
theorem zc8:∀ ds:List PyData,trD2 ds=true->∃ t:Tr,ds=[.str t.1,t.2.enc]
 | [],h=>by simp [trD2] at h
 | d::r,h=>by
  rw [trD2,Bool.and_eq_true] at h
  obtain ⟨z,ez,_⟩:=z4t h.1
  obtain ⟨g,eg⟩:=zdc r h.2
  exact ⟨(z,g),by rw [ez,eg]⟩
theorem zdc:∀ ds:List PyData,trD3 ds=true->∃ g:Gr,ds=[g.enc]
 | [],h=>by simp [trD3] at h
 | d::r,h=>by
  rw [trD3,Bool.and_eq_true] at h
  obtain ⟨g,eg⟩:=z4q d h.1
  have:r=[]:=by cases r with | nil=>rfl | cons _ _=>simp at h
  exact ⟨g,by rw [eg,this]⟩
end
section
variable {K:PySem.W.Frag} {H:Hp}
theorem zae {C:Int}:∀ (g:Gr) {vs:List V},g.Ok C->DpAll K H vs g.encs->TgAll K H vs g.encs
 | .nil,vs,_,h=>by cases h; exact .nil
 | .cons k g m r,vs,ho,h=>by
  cases h with
  | cons h1 h2 =>
   refine .cons ?_ (zae r ho.2.2.2.2.1 h2)
   cases h1 with
   | tup hs ha =>
    cases ha with
    | cons h3 h4 =>
     cases h4 with
     | cons h5 h6 =>
      cases h6; cases h5
      refine .tup hs (.cons ?_ (.cons (.int _) .nil))
      cases h3 with
      | tup hs2 hb =>
       cases hb with
       | cons h7 h8 =>
        cases h8 with
        | cons h9 h10 =>
         cases h10; cases h7
         cases h9 with
         | tup hs3 hc=>exact .tup hs2 (.cons (.str _ (by have:=ho.1.2.1; simp [Str.length]; simp at this; omega)) (.cons (.tup hs3 (zae g ho.2.1 hc)) .nil))
theorem z3i:∀ (g:Gr) {vs:List V},TgAll K H vs g.encs->DpAll K H vs g.encs
 | .nil,vs,h=>by cases h; exact .nil
 | .cons k g m r,vs,h=>by
  cases h with
  | cons h1 h2 =>
   refine .cons ?_ (z3i r h2)
   cases h1 with
   | tup hs ha =>
    cases ha with
    | cons h3 h4 =>
     cases h4 with
     | cons h5 h6 =>
      cases h6; cases h5
      refine .tup hs (.cons ?_ (.cons (.int _) .nil))
      cases h3 with
      | tup hs2 hb =>
       cases hb with
       | cons h7 h8 =>
        cases h8 with
        | cons h9 h10 =>
         cases h10; cases h7
         cases h9 with
         | tup hs3 hc=>exact .tup hs2 (.cons (.str _) (.cons (.tup hs3 (z3i g hc)) .nil))
end
def z72 (K:PySem.W.Frag):Sp:=fun vs H Q _=>∃ (v:V) (d:PyData),vs=[v]/\Tg K H v d/\∀ H',SB [] H H'->Q (.bl (z15 d)) H'
def z1f (K:PySem.W.Frag) (n:Nat):Sp:=fun vs H Q _=>∃ (v:V) (d:PyData),vs=[v]/\Tg K H v d/\d.depth < n/\d.depth<=80/\wide d<=1000/\∀ H',SB [] H H'->Q (.bl (z0g d)) H'
def z1c (K:PySem.W.Frag) (n:Nat):Sp:=fun vs H Q _=>∃ (v:V) (d:PyData),vs=[v]/\Tg K H v d/\d.depth < n/\d.depth<=80/\wide d<=1000/\∀ H',SB [] H H'->Q (.bl (z09 d)) H'
def z1j (K:PySem.W.Frag) (tp:Bool) (n:Nat):Sp:=fun vs H Q _=>∃ (a:Addr) (xs:List V) (ds:List PyData),vs=[.ref a]/\(if tp=true then SqT K H a xs else SqL K H a xs)/\TgAll K H xs ds/\PyData.depthAll ds < n/\PyData.depthAll ds<=79/\wide (.tuple ds)<=1000/\∀ H',SB [] H H'->Q (.bl (grPs ds)) H'
/-- the run of signs from a place on -/
def z74 (K:PySem.W.Frag):Sp:=fun vs H Q _=>∃ (z y:Str) (k:Nat),vs=[.str z,.int (k:Int),.str y]/\z.length<=100000/\k<=z.length/\∀ e:Nat,k<=e->e<=z.length->(∀ j c,k<=j->j < e->z.cps.toList[j]?=some c->c ∈ y.cps.toList)->(∀ c,z.cps.toList[e]?=some c->c ∉ y.cps.toList)->Q (.str (cutS z (some (k:Int)) (some (e:Int)))) H
theorem z9m (c:Nat):c ∈ abc.cps.toList ↔ 97<=c/\c<=122:=by
 have e:abc.cps.toList=(List.range 26).map (·+97):=by decide +kernel
 rw [e,List.mem_map]
 constructor
 ·rintro ⟨x,hx,rfl⟩
  have:=List.mem_range.mp hx
  omega
 ·intro h
  exact ⟨c-97,List.mem_range.mpr (by omega),by omega⟩
theorem z59 (z:Str):z.cps.toList.length=z.length:=by simp [Str.length]
theorem cut0 (z:Str) {e:Nat} (he:e<=z.length):(cutS z (some ((0:Nat):Int)) (some (e:Int))).cps.toList=z.cps.toList.take e:=by
 unfold cutS
 rw [HT.sIx_nat,HT.sIx_nat]
 simp [Nat.min_eq_left he]
theorem zc7 {z:Str} {e:Nat} (h1:1<=z.length) (h8:z.length<=8) (he:e<=z.length) (hin:∀ j c,0<=j->j < e->z.cps.toList[j]?=some c->c ∈ abc.cps.toList) (hout:∀ c,z.cps.toList[e]?=some c->c ∉ abc.cps.toList) :
  decide (V.str (cutS z (some ((0:Nat):Int)) (some (e:Int)))=V.str z)=z15 (.str z):=by
 have hl:=z59 z
 rw [Bool.eq_iff_iff,decide_eq_true_iff,z15,decide_eq_true_iff]
 constructor
 ·intro h
  injection h with h
  have h2:=cut0 z he
  rw [h] at h2
  have h3:z.cps.toList.length=min e z.cps.toList.length:=by
   have:=congrArg List.length h2
   rwa [List.length_take] at this
  refine ⟨by omega,by omega,fun c hc=>?_⟩
  obtain ⟨j,hj⟩:=List.mem_iff_getElem?.mp hc
  have hj2:=(List.getElem?_eq_some_iff.mp hj).1
  exact (z9m c).mp (hin j c (Nat.zero_le _) (by omega) hj)
 ·rintro ⟨_,_,hall⟩
  have e1:e=z.length:=by
   rcases Nat.lt_or_ge e z.length with h | h
   ·obtain ⟨c,hc⟩:∃ c,z.cps.toList[e]?=some c:=⟨_,List.getElem?_eq_getElem (by omega)⟩
    exact absurd ((z9m c).mpr (hall c (List.mem_of_getElem? hc))) (hout c hc)
   ·omega
  have h2:=cut0 z he
  rw [e1,<- hl,List.take_length] at h2
  congr 1
  have h3:∀ a b:Str,a.cps.toList=b.cps.toList->a=b:=by
   intro a b hab
   cases a; cases b
   congr 1
   exact Array.toList_inj.mp hab
  rw [e1,<- hl]
  exact h3 _ _ h2
theorem z8r {z:Str} (h:¬ (1<=z.length/\z.length<=8)):z15 (.str z)=false:=by
 have hl:=z59 z
 rw [z15]
 exact decide_eq_false fun ⟨h1,h2,_⟩=>h ⟨by omega,by omega⟩
theorem z90 {z:Str} (h:z01 z):z15 (.str z)=true:=decide_eq_true h
theorem zcg {t:Tr} (h0:z01 t.1) (h:z09 t.2.enc=true):z0g (Gr.tEnc t)=true:=by
 rw [Gr.tEnc,z0g,trD2,trD3,z90 h0,h]; rfl
theorem zhc {t:Tr} {m:Int} (h0:z01 t.1) (h:z09 t.2.enc=true) (hm:1<=m):grP (Gr.pEnc (t,m))=true:=by
 show grP (.tuple [Gr.tEnc t,.int m])=true
 rw [grP,grP2,z0u,zcg h0 h]
 simp [z0q,hm]
theorem z2i {C:Int}:∀ {g:Gr},g.Ok C->z09 g.enc=true
 | .nil,_=>by decide +kernel
 | .cons k g m r,⟨h0,h1,h2,h3,h4,h5⟩=>by
  have a1:=z2i h1
  have a2:=z2i h4
  rw [Gr.enc,z09,Bool.and_eq_true] at a2
  have hp:grP (Gr.pEnc ((k,g),m))=true:=zhc h0 a1 h2
  have e:(Gr.cons k g m r).encs=Gr.pEnc ((k,g),m)::r.encs:=rfl
  rw [Gr.enc,z09,e,grPs,hp,a2.1,Bool.true_and,Bool.true_and,List.map_cons]
  cases r with
  | nil=>rfl
  | cons k2 g2 m2 r2 =>
   have hlt:dataLt (Gr.tEnc (k,g)) (Gr.tEnc (k2,g2))=true:=h5 ((k2,g2),m2) (mcs ..)
   have e2:(Gr.cons k2 g2 m2 r2).encs=Gr.pEnc ((k2,g2),m2)::r2.encs:=rfl
   have a3:=a2.2
   rw [e2,List.map_cons] at a3 ⊢
   show (dataLt (Gr.tEnc (k,g)) (Gr.tEnc (k2,g2))::ltsD _).all id=true
   rw [List.all_cons,show id (dataLt (Gr.tEnc (k,g)) (Gr.tEnc (k2,g2)))=true from hlt,Bool.true_and]
   exact a3
theorem z4d:∀ g:Gr,z0w g.encs<=2+g.parts/\g.encs.length<=g.parts
 | .nil=>⟨by show z0w []<=_; rw [z0w]; omega,Nat.le_refl _⟩
 | .cons k g m r=>by
  obtain ⟨h1,h2⟩:=z4d g
  obtain ⟨h3,h4⟩:=z4d r
  have e:(Gr.cons k g m r).encs=Gr.pEnc ((k,g),m)::r.encs:=rfl
  have e2:wide (Gr.pEnc ((k,g),m))<=2+g.parts:=by
   show wide (.tuple [.tuple [.str k,.tuple g.encs],.int m])<=_
   simp only [wide,z0w,List.length_cons,List.length_nil]
   omega
  rw [e,z0w,List.length_cons]
  show _<=2+(1+g.parts+r.parts)/\_<=1+g.parts+r.parts
  omega
section
variable {K:PySem.W.Frag} {H:Hp} {C:Int}
theorem z8l {g:Gr} {v:V} (ho:g.Ok C) (h:GA K H v g):Tg K H v g.enc:=by
 cases (h:Dp K H v (.tuple g.encs)) with
 | tup hs ha=>exact .tup hs (zae g ho ha)
theorem za7 {z:Str} (h:z01 z):z.length<=1000:=by
 have:=h.2.1
 rw [z59] at this
 omega
end
section
variable {K:PySem.W.Frag} {H H3 H4:Hp} {p0 nm S:Addr} {ks:List Str}
theorem Hd.other (h:Hd K H H3 p0 nm ks) (s:SB [S] H3 H4) (n:H S=none) (n1:p0 ≠ S) (n2:nm ≠ S):Hd K H H4 p0 nm ks:=by
 refine ⟨h.hp.keep s (by simpa using n1),s.keep _ _ h.hnm (by simpa using n2),h.k1,h.k8,h.kn,h.ne,?_,h.np⟩
 have h1:SB [S,p0] H H3:=h.sb.mono fun b hb=>mcm _ hb
 have h2:SB [S,p0] H3 H4:=s.mono fun b hb=>by have:b=S:=by simpa using hb
                                              subst this; simp
 exact (h1.trans h2).drop n
end
/-- a list that stands is kept where another is changed -/
theorem SB.lst {H H':Hp} {ps:List Addr} {D:Addr} {us:List V} (s:SB ps H H') (h:H D=some (.lst us)) (n:D ∉ ps):H' D=some (.lst us):=s.keep _ _ h n
theorem TgAll.append {K:PySem.W.Frag} {H:Hp}:∀ {xs ys:List V} {ds es:List PyData},TgAll K H xs ds->TgAll K H ys es->TgAll K H (xs++ys) (ds++es)
 | _,_,_,_,.nil,h=>h
 | _,_,_,_,.cons a b,h=>.cons a (TgAll.append b h)
/-- any(xs),xs a list of data -/
def zjf (K:PySem.W.Frag):List V->Hp->VK->Prop:=fun vs H Q=>∃ (a:Addr) (xs:List V) (ds:List PyData),vs=[V.ref a]/\SqL K H a xs/\DpAll K H xs ds/\PyData.plainAll ds=true/\(∀ d ∈ ds,d.fits63)/\Q (.bl (ds.any PyData.truthy)) H
section
variable {X:Cx}
theorem zgg (hc:X.calm=true):CallR X (.builtin "any") (zjf X.K):=by
 intro pins s σ H vs us Q I r h
 obtain ⟨a,xs,ds,rfl,hs,hd,hp,hf,q⟩:=h
 obtain ⟨its,rv,hl,_⟩:=I.list hs
 rw [Vals.ref1 r]
 obtain ⟨as,hr⟩:=Dp.readsAll I ds xs its hd rv
 exact any_list_data (I.ok.hd hc) hl.isList (by simpa using hr) hp hf fun h' tk hk=>⟨.bl _,H,I.kept (t':=tk) hk,rfl,q⟩
end
theorem SB.setD {H:Hp} {p:Addr} {kvs:List (Key × V)} {ps:List Addr} (h:H p=some (.dK kvs)) (hp:p ∈ ps) (o:HO):SB ps H (upd H p o):=by
 refine ⟨fun b u e n=>?_,fun b u e=>?_,fun b v u e=>?_,fun b e=>?_⟩
 ·rw [upd_ne (fun (z:b=p)=>n (by rw [z]; exact hp))]; exact e
 ·rw [upd_ne (fun (z:b=p)=>by subst z; rw [h] at e; cases e)]; exact e
 ·rw [upd_ne (fun (z:b=p)=>by subst z; rw [h] at e; cases e)]; exact e
 ·by_cases q:b=p
  ·subst q; rw [upd_same] at e; cases e
  ·rw [upd_ne q] at e; exact e
namespace Lad
def isN (l:Lad):Bool:=l.ps.all fun p=>decide (p.1=.nil)
def over1 (l:Lad):Bool:=(Lad.num 1).lt l
def sortT (l:Lad):Str:=if l.isN=true then "number" else if (l.ps.any fun p=>p.1.over1)=false then "pair" else if (l.ps.all fun p=>p.1.isN)=true then "power" else "tower"
theorem sortT_num (l:Lad):decide (l.sortT="number")=l.isN:=by
 unfold sortT
 cases h:l.isN with
 | true=>simp
 | false =>
  rw [if_neg (by simp)]
  split
  ·decide +kernel
  ·split <;> decide +kernel
theorem numU:Lad.num 1=.cons .nil 1 .nil:=rfl
/-- a right ladder all of whose exponents are nought is a number -/
theorem isN_ok {B:Int} {e:Lad} (h:e.Ok B) (hn:e.isN=true):e=.nil\/∃ m,1<=m/\e=.cons .nil m .nil:=by
 cases e with
 | nil=>exact .inl rfl
 | cons x m r =>
  have h1:x=.nil:=by
   have:((Lad.cons x m r).ps.all fun p=>decide (p.1=.nil))=true:=hn
   rw [show (Lad.cons x m r).ps=(x,m)::r.ps from rfl,List.all_cons,Bool.and_eq_true] at this
   exact of_decide_eq_true this.1
  subst h1
  cases r with
  | nil=>exact .inr ⟨m,h.2.1,rfl⟩
  | cons y k s =>
   have:=h.2.2.2.2 (y,k) (mcs ..)
   rw [lt_nil_r] at this
   cases this
theorem over1_nil:over1 .nil=false:=by unfold over1; rw [lt_nil_r]
theorem over1_num (m:Int):over1 (.cons .nil m .nil)=decide (1 < m):=by
 unfold over1
 rw [numU,lt_cons,if_pos rfl]
 by_cases h:(1:Int)=m
 ·rw [if_pos h,lt_irrefl]; subst h; rfl
 ·rw [if_neg h]
theorem over1_more {B:Int} {e:Lad} (h:e.Ok B) (hn:e.isN=false):over1 e=true:=by
 cases e with
 | nil=>simp [isN,ps] at hn
 | cons x m r =>
  unfold over1
  rw [numU,lt_cons]
  by_cases hx:Lad.nil=x
  ·subst hx
   rw [if_pos rfl]
   cases r with
   | nil=>simp [isN,ps] at hn
   | cons y k s =>
    have:=h.2.2.2.2 (y,k) (mcs ..)
    rw [lt_nil_r] at this
    cases this
  ·rw [if_neg hx]
   cases x with
   | nil=>exact absurd rfl hx
   | cons _ _ _=>exact lt_nil_cons ..
end Lad
def z12 (K:PySem.W.Frag) (n:Nat):Sp:=fun vs H Q _=>∃ (v:V) (l:Lad),vs=[v]/\LA K H v l/\l.deep < n/\l.deep<=45/\l.parts<=900/\∀ H',SB [] H H'->Q (.str l.sortT) H'
theorem zcm (i:Int):(Lad.num i).deep<=1:=by unfold Lad.num; split <;> simp [Lad.deep]
theorem z4l:∀ l:List (Lad × Int),PyData.plainAll (l.map fun p=>p.1.enc)=true
 | []=>by simp [PyData.plainAll]
 | p::l=>by
  have key:∀ l:Lad,PyData.plainAll l.encs=true:=by
   intro l
   induction l with
   | nil=>simp [Lad.encs,PyData.plainAll]
   | cons e m r h1 h2=>simp [Lad.encs,PyData.plainAll,PyData.plain,h1,h2]
  have h:=z4l l
  rw [List.map_cons,PyData.plainAll,h,Lad.enc,PyData.plain,key]
  rfl
theorem z8d:∀ l:List (Lad × Int),(l.map fun p=>p.1.enc).any PyData.truthy=!(l.all fun p=>decide (p.1=.nil))
 | []=>rfl
 | p::l=>by
  rw [List.map_cons,List.any_cons,List.all_cons,z8d l,Bool.not_and]
  congr 1
  cases p.1 with
  | nil=>decide +kernel
  | cons e m r=>simp [Lad.enc,PyData.truthy,Lad.encs]
section
variable {K:PySem.W.Frag} {β:Type} {enc:β->PyData}
theorem zat {j:Nat} {D:Addr} {tb rest:TS} {De:Ends} {σ:L2.St} {H:Hp} (meas:List β->Nat) (Pv:List β->L2.St->Hp->Prop) {ws0:List β} (h0:Pv ws0 σ H)
  (hl:∀ ws σ H,Pv ws σ H->σ[j]?=some (some (.ref D))/\∃ us,H D=some (.lst us)/\Bears K H enc us ws) (hn:∀ b,z03 (enc b)=true) (hsh:∀ ws σ H,Pv ws σ H->SeqAt.shaped (.list (ws.map enc))=true)
  (hk:∀ ws σ H z,Pv ws σ H->H z=none->Pv ws σ (upd H z (.lst [])))
  (step:∀ js x σ H,Pv (js++[x]) σ H->tb { De with nx:=fun σ' H'=>∃ ws',meas ws' < meas (js++[x])/\Pv ws' σ' H',ct:=fun σ' H'=>∃ ws',meas ws' < meas (js++[x])/\Pv ws' σ' H',bk:=rest De } σ H)
  (done:∀ σ H,Pv [] σ H->rest De σ H):tSeq (tWhile (tTest (tOp (rNeD K) (tVar j) (tLst tNil))) tb) rest De σ H:=by
 refine ⟨fun m σ H=>∃ ws,m=meas ws/\Pv ws σ H,⟨_,ws0,rfl,h0⟩,fun m σ1 H1 h1=>?_⟩
 obtain ⟨ws,rfl,p1⟩:=h1
 obtain ⟨e1,us,hD1,hb1⟩:=hl ws σ1 H1 p1
 refine ⟨_,e1,(by show 0<=sizeLine; decide),fun z0 hz0=>?_⟩
 have p2:=hk ws σ1 H1 z0 p1 hz0
 have t2:=SB.new (ps:=[]) hz0 (.lst [])
 have hD2:=t2.keep _ _ hD1 nmn
 have hb2:=hb1.sb t2 hn
 refine ⟨.list (ws.map enc),.list [],Dp.lst (SqL.of hD2) hb2.dp,Dp.lst (SqL.of upd_same) .nil,hsh ws σ1 H1 p1,by decide +kernel,_,rfl,?_⟩
 rcases List.eq_nil_or_concat ws with he | ⟨js,x,he⟩
 ·subst he
  exact iteF (done _ _ p2)
 ·rw [List.concat_eq_append] at he
  subst he
  have ez:(!PyData.eqv (.list ((js++[x]).map enc)) (.list []))=true:=by
   cases js <;> simp [PyData.eqv,PyData.eqvAll]
  rw [ez]
  exact iteT ⟨_,fun σ' H' ⟨ws',h1,h2⟩=>⟨_,h1,ws',rfl,h2⟩,step js x σ1 _ p2⟩
/-- left.pop() -/
theorem zcf {j:Nat} {D:Addr} {σ:L2.St} {H:Hp} {us:List V} {js:List β} {x:β} {Q:VK} (hσ:σ[j]?=some (some (.ref D))) (hD:H D=some (.lst us)) (hb:Bears K H enc us (js++[x])) (hn:∀ b,z03 (enc b)=true)
  (k:∀ (us':List V) (u:V) (H':Hp),SB [D] H H'->H' D=some (.lst us')->Bears K H' enc us' js->Dp K H' u (enc x)->(∀ b,b ≠ D->H' b=H b)->Q u H'):tBM0 K "list" rPop (tVar j) σ H Q:=by
 obtain ⟨us',u,rfl,hus,hu⟩:=hb.snoc
 refine ⟨_,hσ,.inl ⟨rfl,_,SqL.of hD⟩,D,_,_,rfl,rfl,hD,(by simp:(us'++[u])[(us'++[u]).length-1]?=some u),?_⟩
 have edl:(us'++[u]).dropLast=us':=by simp
 rw [edl]
 have t5:=SB.set (ps:=[D]) hD (by simp) (.lst us')
 exact k us' u _ t5 upd_same (hus.sb t5 hn) (z0e t5 _ _ (hn _) hu) fun b hb=>upd_ne hb
end
abbrev PG:=Pl × Gr
open TL (tl)
def numT (m:Int):List Nat:=if m=1 then [] else TL.numL m.toNat++[32]
namespace Gr
def body:Gr->List Nat
 | .nil=>[]
 | .cons k g m r=>numT m++(tl k++((if g=.nil then [] else 123::(g.body++[125]))++(if r=.nil then [] else 44::32::r.body)))
def held (g:Gr):List Nat:=if g=.nil then [] else 123::(g.body++[125])
def more (r:Gr):List Nat:=if r=.nil then [] else 44::32::r.body
def text (g:Gr):List Nat:=if g=.nil then [45] else g.body
theorem body_cons (k:Str) (g:Gr) (m:Int) (r:Gr):(Gr.cons k g m r).body=numT m++(tl k++(g.held++r.more)):=rfl
theorem text_cons (k:Str) (g:Gr) (m:Int) (r:Gr):(Gr.cons k g m r).text=(Gr.cons k g m r).body:=if_neg (fun z=>nomatch z)
end Gr
theorem zck {m:Int} {C:Nat} (hC:0 < C) (h0:0<=m) (h:m < 10 ^ C):(numT m).length<=C+1:=by
 unfold numT
 split
 ·simp
 ·obtain ⟨n,rfl⟩:∃ n:Nat,m=(n:Int):=⟨m.toNat,by omega⟩
  have h':n < 10 ^ C:=by exact_mod_cast h
  have:=TL.numL_len hC h'
  rw [List.length_append,Int.toNat_natCast]; simp; omega
namespace Gr
theorem body_len {C:Nat} (hC:0 < C):∀ {g:Gr},g.Ok (10 ^ C)->g.body.length<=(C+13)*g.parts
 | .nil,_=>Nat.zero_le _
 | .cons k g m r,⟨h0,h1,h2,h3,h4,_⟩=>by
  have a:=body_len hC h1
  have b:=body_len hC h4
  have c:=zck hC (by omega) h3
  have d:=h0.2.1
  have e1:g.held.length<=(C+13)*g.parts+2:=by unfold held; split <;> simp <;> omega
  have e2:r.more.length<=(C+13)*r.parts+2:=by unfold more; split <;> simp <;> omega
  rw [body_cons]
  simp only [List.length_append,parts]
  have e3:(C+13)*(1+g.parts+r.parts)=(C+13)+(C+13)*g.parts+(C+13)*r.parts:=by rw [Nat.mul_add,Nat.mul_add,Nat.mul_one]
  have d':(tl k).length<=8:=d
  omega
theorem text_len {C:Nat} (hC:0 < C) {g:Gr} (h:g.Ok (10 ^ C)):g.text.length<=(C+13)*g.parts+1:=by
 have:=body_len hC h
 unfold text
 split
 ·simp
 ·omega
end Gr
def z1w (c:Nat):Bool:=decide (48<=c/\c<=57)
def z1e (c:Nat):Bool:=decide (97<=c/\c<=122)
abbrev Rd (α:Type):=List Nat->Option (α × List Nat)
def z3b (rdT:Rd Tr):Rd (Tr × Int):=fun l =>
 if l.takeWhile z1w=[] then (rdT l).map fun x=>((x.1,1),x.2)
 else if (l.takeWhile z1w).length > 60\/(l.dropWhile z1w).head? ≠ some 32 then none
 else (rdT (l.dropWhile z1w).tail).map fun x=>((x.1,(NumText.digitsVal (l.takeWhile z1w):Int)),x.2)
def z1d (rdP:Rd (Tr × Int)):Nat->Rd (List (Tr × Int))
 | 0,l=>some ([],l)
 | f+1,l=>if l.take 2=[44,32] then (rdP (l.drop 2)).bind fun x=>(z1d rdP f x.2).map fun y=>(x.1::y.1,y.2) else some ([],l)
def z1l (rdP:Rd (Tr × Int)):Rd (List (Tr × Int)):=fun l=>(rdP l).bind fun x=>(z1d rdP 100000 x.2).map fun y=>(x.1::y.1,y.2)
def z1s:Nat->Rd Tr
 | 0,l=>if (l.dropWhile z1e).head? ≠ some 123 then some ((⟨(l.takeWhile z1e).toArray⟩,.nil),l.dropWhile z1e) else none
 | n+1,l=>if (l.dropWhile z1e).head? ≠ some 123 then some ((⟨(l.takeWhile z1e).toArray⟩,.nil),l.dropWhile z1e) else
   (z1l (z3b (z1s n)) (l.dropWhile z1e).tail).bind fun x=>if x.2.head?=some 125 then some ((⟨(l.takeWhile z1e).toArray⟩,Gr.ofPs x.1),x.2.tail) else none
abbrev z0y (n:Nat):Rd (Tr × Int):=z3b (z1s n)
theorem z1a {p:Nat->Bool}:∀ {as bs:List Nat},(∀ a ∈ as,p a=true)->(∀ b,bs.head?=some b->p b=false)->(as++bs).takeWhile p=as/\(as++bs).dropWhile p=bs
 | [],bs,_,hb=>by
  cases bs with
  | nil=>exact ⟨rfl,rfl⟩
  | cons b r =>
   have:=hb b rfl
   exact ⟨by simp [List.takeWhile,this],by simp [List.dropWhile,this]⟩
 | a::as,bs,ha,hb=>by
  obtain ⟨h1,h2⟩:=z1a (fun x hx=>ha x (mcm _ hx)) hb
  have:=ha a (mcs ..)
  exact ⟨by rw [List.cons_append,List.takeWhile_cons,if_pos this,h1],by rw [List.cons_append,List.dropWhile_cons,if_pos this,h2]⟩
theorem z7s {k:Str} (h:z01 k):∀ c ∈ tl k,z1e c=true:=fun c hc=>decide_eq_true (h.2.2 c hc)
theorem z81 {k:Str} (h:z01 k) (r:List Nat):∃ c s,tl k++r=c::s/\97<=c/\c<=122:=by
 cases e:tl k with
 | nil=>have:=h.1; rw [show k.cps.toList=tl k from rfl,e] at this; simp at this
 | cons c s=>exact ⟨c,s++r,rfl,h.2.2 c (by rw [show k.cps.toList=tl k from rfl,e]; simp)⟩
/-- what may stand behind a pair -/
def Stop (l:List Nat):Prop:=∀ c,l.head?=some c->c=44\/c=125
theorem z86 {rdT:Rd Tr} {t:Tr} {m:Int} {l rest:List Nat} (hn:z01 t.1) (h1:1<=m) (hB:m < 10 ^ 60) (h:rdT (tl t.1++l)=some (t,rest)):z3b rdT (numT m++(tl t.1++l))=some ((t,m),rest):=by
 obtain ⟨c,s,ec,hc1,hc2⟩:=z81 hn l
 unfold z3b numT
 by_cases hm:m=1
 ·subst hm
  rw [if_pos rfl,List.nil_append]
  have e1:(tl t.1++l).takeWhile z1w=[]:=by
   rw [ec,List.takeWhile_cons,if_neg]
   simp [z1w]; omega
  rw [if_pos e1,h]; rfl
 ·rw [if_neg hm]
  obtain ⟨n,rfl⟩:∃ n:Nat,m=(n:Int):=⟨m.toNat,by omega⟩
  rw [Int.toNat_natCast,List.append_assoc]
  have hd:∀ a ∈ TL.numL n,z1w a=true:=fun a ha=>by
   have:=TL.numL_digits n a ha
   exact decide_eq_true (by omega)
  obtain ⟨e1,e2⟩:=z1a (p:=z1w) (as:=TL.numL n) (bs:=[32]++(tl t.1++l)) hd (fun b hb=>by
   have:(32:Nat)=b:=by simpa using hb
   subst this; rfl)
  rw [e1,e2,if_neg (TL.numL_ne n)]
  have hl:(TL.numL n).length<=60:=TL.numL_len (by decide) (by exact_mod_cast hB)
  rw [if_neg (by simp; omega)]
  show (rdT (tl t.1++l)).map _=_
  rw [h,TL.numL_val]; rfl
theorem z8m {n:Nat} {k:Str} {rest:List Nat} (hn:z01 k) (hs:Stop rest):z1s n (tl k++rest)=some ((k,.nil),rest):=by
 obtain ⟨e1,e2⟩:=z1a (p:=z1e) (as:=tl k) (bs:=rest) (z7s hn) (fun b hb=>by
  rcases hs b hb with h | h <;> subst h <;> rfl)
 have hh:rest.head? ≠ some 123:=fun h=>by rcases hs 123 h with e | e <;> cases e
 cases n with
 | zero=>unfold z1s; rw [e1,e2,if_pos hh,TL.mk_tl]
 | succ n=>unfold z1s; rw [e1,e2,if_pos hh,TL.mk_tl]
theorem z8i {n:Nat} {k:Str} {g:Gr} {rest:List Nat} (hn:z01 k) (hg:g ≠ .nil) (h:z1l (z0y n) (g.body++([125]++rest))=some (g.ps,[125]++rest)):z1s (n+1) (tl k++(g.held++rest))=some ((k,g),rest):=by
 have e0:g.held++rest=123::(g.body++([125]++rest)):=by
  unfold Gr.held; rw [if_neg hg]; simp
 rw [e0]
 obtain ⟨e1,e2⟩:=z1a (p:=z1e) (as:=tl k) (bs:=123::(g.body++([125]++rest))) (z7s hn) (fun b hb=>by
  have:(123:Nat)=b:=by simpa using hb
  subst this; rfl)
 unfold z1s
 rw [e1,e2,if_neg (by simp)]
 show (z1l (z0y n) (g.body++([125]++rest))).bind _=_
 rw [h]
 show (if ([125]++rest).head?=some 125 then some (((⟨(tl k).toArray⟩:Str),Gr.ofPs g.ps),rest) else none)=_
 rw [TL.mk_tl,Gr.ofPs_ps]
 rfl
theorem Stop.nil:Stop []:=fun c h=>by cases h
theorem Stop.comma (r:List Nat):Stop (44::r):=fun c h=>by have:(44:Nat)=c:=by simpa using h
                                                          exact .inl this.symm
/-- what may stand behind pairs -/
def End (l:List Nat):Prop:=∀ c,l.head?=some c->c=125
theorem End.stop {l:List Nat} (h:End l):Stop l:=fun c hc=>.inr (h c hc)
theorem z4y (r:Gr) {rest:List Nat} (he:End rest):Stop (r.more++rest):=by
 unfold Gr.more
 split
 ·exact he.stop
 ·exact Stop.comma _
theorem zcs {rdP:Rd (Tr × Int)} {rest:List Nat} (he:End rest) (f:Nat):z1d rdP f rest=some ([],rest):=by
 cases f with
 | zero=>rfl
 | succ f =>
  show (if rest.take 2=[44,32] then _ else _)=_
  rw [if_neg]
  intro z
  cases rest with
  | nil=>simp at z
  | cons c s =>
   have hc:=he c rfl
   subst hc
   simp at z
mutual
theorem z2p:∀ (r:Gr),r.Ok (10 ^ 60)->r.parts<=100000->∀ (n f:Nat),r.ps.length<=f->r.deep<=n+1->∀ rest,End rest->z1d (z0y n) f (r.more++rest)=some (r.ps,rest)
 | .nil,_,_,n,f,_,_,rest,he=>by
  show z1d (z0y n) f rest=some ([],rest)
  exact zcs he f
 | .cons k g m r,ho,hp,n,f,hf,hd,rest,he=>by
  have hp2:r.parts<=100000:=by have:1+g.parts+r.parts<=100000:=hp; omega
  cases f with
  | zero=>simp [Gr.ps] at hf
  | succ f =>
   have hd2:r.deep<=n+1:=by have:max (1+g.deep) r.deep<=n+1:=hd; omega
   have hf':r.ps.length<=f:=by have:r.ps.length+1<=f+1:=hf; omega
   have e:(Gr.cons k g m r).more++rest=44::32::(numT m++(tl k++(g.held++(r.more++rest)))):=by
    unfold Gr.more; rw [if_neg (fun z=>nomatch z),Gr.body_cons]
    simp [Gr.more]
   rw [e]
   show (if (44::32::(numT m++(tl k++(g.held++(r.more++rest))))).take 2=[44,32] then (z0y n (numT m++(tl k++(g.held++(r.more++rest))))).bind (fun x=>(z1d (z0y n) f x.2).map fun y=>(x.1::y.1,y.2)) else _)=_
   rw [if_pos (show (44::32::(numT m++(tl k++(g.held++(r.more++rest))))).take 2=[44,32] from rfl),z2r k g m r ho hp n hd (r.more++rest) (z4y r he)]
   show (z1d (z0y n) f (r.more++rest)).map _=_
   rw [z2p r ho.2.2.2.2.1 hp2 n f hf' hd2 rest he]; rfl
theorem z2r:∀ (k:Str) (g:Gr) (m:Int) (r:Gr),(Gr.cons k g m r).Ok (10 ^ 60)->(Gr.cons k g m r).parts<=100000->∀ (n:Nat),(Gr.cons k g m r).deep<=n+1->∀ rest,Stop rest->z0y n (numT m++(tl k++(g.held++rest)))=some (((k,g),m),rest)
 | k,g,m,r,⟨h0,h1,h2,h3,h4,_⟩,hp,n,hd,rest,hs=>by
  have hp1:g.parts<=100000:=by have:1+g.parts+r.parts<=100000:=hp; omega
  have hd1:g.deep<=n:=by have:max (1+g.deep) r.deep<=n+1:=hd; omega
  refine z86 (t:=(k,g)) h0 h2 h3 ?_
  match g,h1,hd1,hp1 with
  | .nil,_,_,_ =>
   show z1s n (tl k++([]++rest))=_
   exact z8m h0 hs
  | .cons k2 g2 m2 r2,h1,hd1,hp1 =>
   match n,hd1 with
   | 0,hd1=>have:max (1+g2.deep) r2.deep<=0:=hd1; omega
   | n+1,hd1 =>
    refine z8i h0 (fun z=>nomatch z) ?_
    have e:(Gr.cons k2 g2 m2 r2).body++([125]++rest)=numT m2++(tl k2++(g2.held++(r2.more++([125]++rest)))):=by
     rw [Gr.body_cons]; simp
    have he:End ([125]++rest):=fun c hc=>by
     have:(125:Nat)=c:=by simpa using hc
     exact this.symm
    rw [e]
    unfold z1l
    rw [z2r k2 g2 m2 r2 h1 hp1 n hd1 _ (z4y r2 he)]
    show (z1d (z0y n) 100000 (r2.more++([125]++rest))).map _=_
    have hd2:r2.deep<=n+1:=by have:max (1+g2.deep) r2.deep<=n+1:=hd1; omega
    have hp2:r2.parts<=100000:=by have:1+g2.parts+r2.parts<=100000:=hp1; omega
    rw [z2p r2 h1.2.2.2.2.1 hp2 n 100000 (Nat.le_trans r2.len_parts hp2) hd2 _ he]; rfl
end
theorem z95 {g:Gr} (ho:g.Ok (10 ^ 60)) (hp:g.parts<=100000) (hne:g ≠ .nil) {n:Nat} (hd:g.deep<=n+1) {rest:List Nat} (he:End rest):z1l (z0y n) (g.body++rest)=some (g.ps,rest):=by
 cases g with
 | nil=>exact absurd rfl hne
 | cons k g m r =>
  have e:(Gr.cons k g m r).body++rest=numT m++(tl k++(g.held++(r.more++rest))):=by rw [Gr.body_cons]; simp
  rw [e]
  unfold z1l
  rw [z2r k g m r ho hp n hd _ (z4y r he)]
  show (z1d (z0y n) 100000 (r.more++rest)).map _=_
  have hd2:r.deep<=n+1:=by have:max (1+g.deep) r.deep<=n+1:=hd; omega
  have hp2:r.parts<=100000:=by have:1+g.parts+r.parts<=100000:=hp; omega
  rw [z2p r ho.2.2.2.2.1 hp2 n 100000 (Nat.le_trans r.len_parts hp2) hd2 _ he]; rfl
open TL (tl)
theorem deep_ofPs {n:Nat} {ps:List (Tr × Int)} (h:∀ p ∈ ps,p.1.2.deep<=n):(Gr.ofPs ps).deep<=n+1:=by
 refine Gr.deep_le fun p hp=>?_
 rw [Gr.ps_ofPs] at hp
 have:=h p hp; omega
/-- a text that shows a grove within the bounds -/
structure Shows (z:Str) (g:Gr):Prop where
 tx:tl z=g.text
 ok:g.Ok (10 ^ 60)
 parts:g.parts<=60
 deep:g.deep<=12
theorem z7l {g:Gr} (h:g.Ok (10 ^ 60)) (e:g.text=[45]):g=.nil:=by
 cases g with
 | nil=>rfl
 | cons k g m r =>
  rw [Gr.text_cons,Gr.body_cons] at e
  exfalso
  obtain ⟨c,s,ec,hc1,hc2⟩:=z81 h.1 (g.held++r.more)
  rw [ec] at e
  unfold numT at e
  split at e
  ·rw [List.nil_append] at e
   injection e with e1 e2
   omega
  ·have hd:=TL.numL_digits m.toNat
   have hne:=TL.numL_ne m.toNat
   cases hx:TL.numL m.toNat with
   | nil=>exact hne hx
   | cons a b =>
    rw [hx] at e hd
    injection e with e1 e2
    have:=hd a (mcs ..)
    omega
theorem Shows.len {z:Str} {g:Gr} (h:Shows z g):z.length<=4381:=by
 have:=Gr.text_len (C:=60) (by decide) h.ok
 rw [<- h.tx,<- TL.len_tl] at this
 have:=h.parts
 omega
theorem Shows.read {z:Str} {g:Gr} (h:Shows z g) (hne:g ≠ .nil):z1l (z0y 12) (tl z)=some (g.ps,[]):=by
 have:=z95 h.ok (by have:=h.parts; omega) hne (n:=12) (by have:=h.deep; omega) (rest:=[]) (fun c hc=>by cases hc)
 rw [List.append_nil] at this
 rw [h.tx]
 unfold Gr.text
 rw [if_neg hne]; exact this
/-- the texts met so far,each once -/
def met (xs:List Str):Nat->List Str
 | 0=>[]
 | i+1=>if (met xs i).any (· == xs.getD i Str.empty)=true then met xs i else met xs i++[xs.getD i Str.empty]
theorem z6x (xs:List Str):∀ i,(met xs i).length<=i
 | 0=>Nat.le_refl _
 | i+1=>by
  have:=z6x xs i
  unfold met
  split
  ·omega
  ·rw [List.length_append]; simp; omega
theorem zg7 (xs:List Str) (i:Nat) (k:Str):(met xs (i+1)).any (· == k)=((met xs i).any (· == k) || decide (k=xs.getD i Str.empty)):=by
 rw [met]
 by_cases e:k=xs.getD i Str.empty
 ·subst e
  split
  ·rename_i h; rw [h]; simp
  ·simp
 ·rw [decide_eq_false e,Bool.or_false]
  split
  ·rfl
  ·rw [List.any_append]
   have:([xs.getD i Str.empty].any (· == k))=false:=by
    simp only [List.any_cons,List.any_nil,Bool.or_false,beq_eq_false_iff_ne]
    exact fun z=>e z.symm
   rw [this,Bool.or_false]
theorem zgd (xs:List Str) (i:Nat):(met xs (i+1)).length=if (met xs i).any (· == xs.getD i Str.empty)=true then (met xs i).length else (met xs i).length+1:=by
 rw [met]; split <;> simp
abbrev SetOfS (P:Program) (w:World) (h:Heap) (a:Addr) (L:List Str):Prop:=h.SetOf (PySem.strKind P w) a (fun k=>L.any (· == k)) L.length
theorem SetOfS.keep {P:Program} {w:World} {h h':Heap} {a:Addr} {L:List Str} (S:SetOfS P w h a L) (k:∀ o,h.get? a=some o->h'.get? a=some o):SetOfS P w h' a L:=by
 obtain ⟨o,es,ep,t,ho,r⟩:=S; exact ⟨o,es,ep,t,k o ho,r⟩
section
variable {P:Program} {w:World} {A:Around}
theorem zd4 {R:Result->Shared->Prop} {I:Addr} {fp wr:List Addr} {G:Array GenState->Array GenState->Prop} {n:Nat} {Pv:Nat->Value->Prop} {St:Nat->Shared->Prop} (W:WalksS P w A.in1 I fp wr G n Pv St) (S:Addr) (hSf:S ∉ fp) (xs:List Str) (hn:n+1 < scanBound)
  (hval:∀ i v,Pv i v->∃ t,v=.str (xs.getD i Str.empty) t):∀ (k i:Nat) (s:Shared),k+i=n->St i s->SetOfS P w s.heap S (met xs i) ->
   (∀ s',Moved (S::wr) G s s'->SetOfS P w s'.heap S (met xs n)->R (.ok (.ret .none)) s')->codeAny (model P w) A (.builtin "set.update.loop" ⟨[.ref S,.ref I],[]⟩) R s:=by
 have out:S ∉ wr:=fun z=>hSf (W.sub _ z)
 have up:∀ b ∈ wr,b ∈ S::wr:=fun b z=>mcm _ z
 intro k
 induction k with
 | zero =>
  intro i s e st hS hR
  rw [Nat.zero_add] at e; subst e
  refine codeAny_builtin F.entry_set_update_loop (by
   rw [Around.under_plainId F.plain_set_update_loop _]
   show wpAny _ A.in1 (pyNext (.ref I) >>= _) _ _ s
   refine wpAny_bind (W.done s _ _ st fun s' hm=>?_)
   show wpAny _ A.in1 (ret Value.none) _ _ s'
   exact wpAny_pure (hR s' (hm.mono up) (hS.keep fun o e=>hm.heap S o out e)))
 | succ k ih =>
  intro i s e st hS hR
  have lt:i < n:=by omega
  refine codeAny_builtin F.entry_set_update_loop (by
   rw [Around.under_plainId F.plain_set_update_loop _]
   show wpAny _ A.in1 (pyNext (.ref I) >>= _) _ _ s
   refine wpAny_bind (W.item i s _ _ lt st fun v s' hP st' hm=>?_)
   obtain ⟨t,rfl⟩:=hval i v hP
   have hS':SetOfS P w s'.heap S (met xs i):=hS.keep fun o e=>hm.heap S o out e
   show wpAny _ A.in1 (holding [Value.str (xs.getD i Str.empty) t] (setAdd S (.str (xs.getD i Str.empty) t)) >>= _) _ _ s'
   refine wpAny_bind (wpAny_holding ?_)
   unfold setAdd
   refine wpAny_holding (wpAny_bind ((PySem.strKind P w).pyHash (k:=xs.getD i Str.empty) (PySem.Froz.is_str _ _) ?_))
   have room:(met xs i).length+1 < scanBound:=by have:=z6x xs i; omega
   refine wpAny_setAddHashed_of (knd:=PySem.strKind P w) (s:={ s' with toks:=s'.toks+1 }) (PySem.Froz.is_str _ _) rfl hS' room fun h' hsb hS2=>?_
   have hSi:SetOfS P w h' S (met xs (i+1)):=SetOf_congr hS2 (fun k'=>(zg7 xs i k').symm) (zgd xs i).symm
   refine wpAny_pure ⟨plainId_quiet F.plain_set_update_loop _,ih (i+1) _ (by omega) (W.frame _ s' _ _ st' (Nat.le_succ _) fun b hb o e=>?_) hSi fun s'' hm'' hS''=>?_⟩
   ·rw [hsb.2 b fun z:b=S=>hSf (z ▸ hb)]; exact e
   ·refine hR s'' (Moved.trans W.gtrans ((hm.mono up).then_heap (Nat.le_succ _) fun b o hb e=>?_) hm'') hS''
    rw [hsb.2 b fun z:b=S=>hb (z ▸ mcs)]; exact e)
abbrev eo (led:Bool):Obj:={ cls:=.type "set",dict:=none,data:=.set #[] 0 (.fresh 0 0 led) }
set_option maxHeartbeats 8000000 in
theorem zb2 {E:Value->Shared->Prop} {s:Shared} {l:Addr} {its:Array Value} {xs:List Str} {Q:Value->Shared->Prop} (hh:A.handled=none) (hl:s.heap.IsList l its) (hi:StrsAre its.toList xs) (hb:its.size+1 < scanBound)
  (h:∀ (h':Heap) (tk:Nat),SetOfS P w h' s.heap.objs.size (met xs its.size)->(∀ b o,b < s.heap.objs.size->s.heap.get? b=some o->h'.get? b=some o)->Q (.ref s.heap.objs.size) { s with heap:=h',toks:=tk }) :
  wpAny (model P w) A (call (.type "set") [.ref l]) Q E s:=by
 obtain ⟨c,tl',hmro⟩:=PySem.F.called_set.mro
 have k1:=PySem.F.called_set.made; have k2:=PySem.F.called_set.sub
 refine wpAny_call (codeAny_of_tree (by
  show wpAny _ _ (callAny (.type "set") _) _ _ _
  refine wpAny_pure ⟨Code.quiet_builtin _ (by decide +kernel),codeAny_builtin PySem.F.entry_type_call ?_⟩
  rw [Around.under_plain (weight_type_call_type "set" [.ref l] []) rfl]
  have k3:=PySem.F.called_set.notType; have k4:=PySem.F.called_set.canCreate; have k5:=PySem.F.typeCall_set_1 (.ref l)
  repeat (any_goals (first | assumption | wp_step))
  refine codeAny_mono (code_set_new_1 (.ref l) (E:=E) (Q₁:=fun ob z=>∃ led:Bool,ob=.ref s.heap.objs.size/\z={ s with heap:=s.heap.push (eo led) }) fun led=>⟨led,rfl,rfl⟩) fun r z hr=>?_
  cases r with
  | error e=>exact hr
  | ok fl =>
  cases fl with
  | ret ob =>
   obtain ⟨led,rfl,rfl⟩:=hr
   have at0:(s.heap.push (eo led)).get? s.heap.objs.size=some (eo led):=Heap.get?_push_size _ rfl
   have ty0:Shared.TypeIs { s with heap:=s.heap.push (eo led) } (.ref s.heap.objs.size) "set":=⟨_,at0,rfl⟩
   have k6:=PySem.F.called_set.init.lookup; have k7:=PySem.F.called_set.init.bind (.ref s.heap.objs.size)
   repeat (any_goals (first | assumption | wp_step))
   refine codeAny_mono (codeAny_call_builtin (R:=wants (fun r s₂=>r=.none/\∃ h' tk,s₂={ s with heap:=h',toks:=tk }/\SetOfS P w h' s.heap.objs.size (met xs its.size)/\(∀ b o,b < s.heap.objs.size->s.heap.get? b=some o->h'.get? b=some o)) E) PySem.F.called_set.init.plain PySem.F.entry_set_init (check_set_init_1 ty0 ?_)) fun r₂ s₂ hr₂=>?_
   ·obtain ⟨⟨oc,od,oda,osl⟩,hol,hcl,nl,hdl⟩:=hl
    simp only at hcl hdl
    subst hcl hdl
    have hol':(s.heap.push (eo led)).get? l=some ⟨.type "list",od,.seq its nl,osl⟩:=Heap.get?_push_of_some _ hol
    have k8:=PySem.F.sub_list_set; have k9:=PySem.F.sub_list_frozenset
    have k10:(Value.type "list" == Value.type "dict")=false:=by decide
    have isl:(s.heap.push (eo led)).IsList l its:=⟨_,hol',rfl,nl,rfl⟩
    unfold Builtin.«set.__init__» noKeywords Builtin.Frozenset.updateFrom
    generalize hPI:pyIter=PI
    wp_walk
    subst hPI
    refine wpAny_pyIter_list isl (wpAny_bind (wpAny_runValue ?_))
    have ltl:l < s.heap.objs.size:=Heap.lt_size hol
    have sz1:(s.heap.push (eo led)).objs.size=s.heap.objs.size+1:=Heap.size_push ..
    have lne:l ≠ (s.heap.push (eo led)).objs.size:=Nat.ne_of_lt (sz1 ▸ Nat.lt_succ_of_lt ltl)
    have nin:s.heap.objs.size ∉ [(s.heap.push (eo led)).objs.size,l]:=by
     intro z
     rcases List.mem_cons.mp z with z | z
     ·exact absurd (z.trans sz1) (Nat.ne_of_lt (Nat.lt_succ_self _))
     ·have:s.heap.objs.size=l:=by simpa using z
      exact absurd this.symm (Nat.ne_of_lt ltl)
    refine zd4 ((Walks.list (show A.in1.in1.in1.handled=none by simp [hh]) _ l lne its).toS) s.heap.objs.size nin xs hb (fun i v hv=>SS.strs_at hi i v (by rw [Array.getElem?_toList]; exact hv)) its.size 0 _ rfl ⟨⟨_,Heap.get?_push_size _ rfl,rfl,rfl⟩,isl.push _⟩ ?c1 ?c2
    case c1=>exact SetOf_congr ((setObjOf_fresh (knd:=PySem.strKind P w) led).setOf (Heap.get?_push_of_some _ at0) (by unfold scanBound; omega)) (fun _=>rfl) rfl
    case c2 =>
     rintro ⟨h',g',d',tk',os'⟩ hm hS'
     have eg:g'=s.gens:=hm.gens; have ed:d'=s.drawn:=hm.drawn; have eo':os'=s.os:=hm.os
     subst eg ed eo'
     show wpAny _ _ _ _ _ _
     refine wpAny_pure (show wpAny _ _ (ret Value.none) _ _ _ from wpAny_pure ⟨rfl,h',tk',rfl,hS',fun b o hb' e=>hm.heap b o (fun z=>?_) (Heap.get?_push_of_some _ (Heap.get?_push_of_some _ e))⟩)
     rcases List.mem_cons.mp z with z | z
     ·exact absurd z (Nat.ne_of_lt hb')
     ·have:b=(s.heap.push (eo led)).objs.size:=by simpa using z
      exact absurd (this.trans sz1) (Nat.ne_of_lt (Nat.lt_succ_of_lt hb'))
   ·cases r₂ with
    | error e=>exact hr₂
    | ok fl₂ =>
    cases fl₂ with
    | ret r =>
     obtain ⟨rfl,h',tk,rfl,hS',hk'⟩:=hr₂
     repeat (any_goals (first | assumption | wp_step))
     exact h _ _ hS' hk'
    | _=>exact hr₂.elim
  | _=>exact hr.elim))
end
/-- all that is met,met -/
theorem z75 (xs:List Str):∀ (i:Nat) (k:Str),k ∈ met xs i ↔ ∃ j,j < i/\xs.getD j Str.empty=k
 | 0,k=>by simp [met]
 | i+1,k=>by
  rw [met]
  have ih:=z75 xs i k
  split
  ·rename_i h
   rw [ih]
   refine ⟨fun ⟨j,a,b⟩=>⟨j,by omega,b⟩,fun ⟨j,a,b⟩=>?_⟩
   by_cases e:j=i
   ·subst e
    obtain ⟨y,hy,he⟩:=List.any_eq_true.mp h
    have:=(z75 xs j y).mp hy
    rw [beq_iff_eq.mp he,b] at this
    exact this
   ·exact ⟨j,by omega,b⟩
  ·rw [List.mem_append,ih]
   refine ⟨fun z=>?_,fun ⟨j,a,b⟩=>?_⟩
   ·rcases z with ⟨j,a,b⟩ | z
    ·exact ⟨j,by omega,b⟩
    ·exact ⟨i,by omega,(List.mem_singleton.mp z).symm⟩
   ·by_cases e:j=i
    ·subst e; exact .inr (List.mem_singleton.mpr b.symm)
    ·exact .inl ⟨j,by omega,b⟩
theorem z2g (xs:List Str):∀ i,(met xs i).Nodup
 | 0=>List.nodup_nil
 | i+1=>by
  rw [met]
  split
  ·exact z2g xs i
  ·rename_i h
   refine List.nodup_append.mpr ⟨z2g xs i,by simp,fun a ha b hb e=>h ?_⟩
   rw [List.mem_singleton.mp hb] at e
   exact List.any_eq_true.mpr ⟨a,ha,beq_iff_eq.mpr e⟩
theorem zg8 (xs:List Str) (k:Str):k ∈ met xs xs.length ↔ k ∈ xs:=by
 rw [z75]
 refine ⟨fun ⟨j,a,b⟩=>?_,fun h=>?_⟩
 ·rw [<- b,List.getD_eq_getElem?_getD,List.getElem?_eq_getElem a]; exact List.getElem_mem a
 ·obtain ⟨j,a,b⟩:=List.getElem_of_mem h
  exact ⟨j,a,by rw [List.getD_eq_getElem?_getD,List.getElem?_eq_getElem a]; exact b⟩
theorem z8e (xs:List Str):∀ i,i<=xs.length->(met xs i).length=i->met xs i=xs.take i
 | 0,_,_=>by simp [met]
 | i+1,hi,h=>by
  have hl:=z6x xs i
  rw [met] at h ⊢
  split at h
  ·omega
  ·rename_i hn
   rw [if_neg hn]
   rw [List.length_append,List.length_singleton] at h
   rw [z8e xs i (by omega) (by omega),List.take_add_one,List.getD_eq_getElem?_getD,List.getElem?_eq_getElem (by omega)]
   rfl
theorem z85 (xs:List Str):(met xs xs.length).length=xs.length ↔ xs.Nodup:=by
 constructor
 ·intro h
  have e:=z8e xs xs.length (Nat.le_refl _) h
  rw [List.take_length] at e
  rw [<- e]; exact z2g xs _
 ·intro h
  exact ((List.perm_ext_iff_of_nodup (z2g xs _) h).mpr fun k=>zg8 xs k).length_eq
section
variable {X:Cx}
/-- len(set(xs)),xs a list of texts -/
def zd5 (K:PySem.W.Frag) (ta:TE):TE:=fun σ H Q=>ta σ H fun x H1=>∃ (l:Addr) (zs:List Str),x=V.ref l/\SqL K H1 l (zs.map V.str)/\zs.length < 1000/\Q (.int (met zs zs.length).length) H1
theorem zap {a:Expr} {ta:TE} {p p2 q pos:Pos} (hc:X.calm=true) (B:BI X.mg) (g1:Gl X "len") (g2:Gl X "set") (ha:PE X a ta)
  (na:starEach [a] X.env=(false,eval a X.env)::starEach [] X.env:=by rfl):PE X (.Call (.Name "len" p) [.Call (.Name "set" p2) [a] [] q] [] pos) (zd5 X.K ta):=by
 refine ⟨fun pins s σ H Q I h=>Call_ (ld_blt I g1 B.len PySem.boot_len ?_)⟩
 refine PyProof.Rows.callWith_builtin1 (PyProof.Rows.args_cons (Call_ (ld_blt I g2 B.set PyProof.Rows.boot_set ?_)) rfl) rfl rfl
 refine PyProof.Rows.callWith_type1 (PyProof.Rows.args_cons (thn (ha.run pins s σ H _ I h) fun v s1 ⟨x,H1,I1,r1,l,zs,ex,hq,h1,q1⟩=>PyProof.Rows.args_nil ?_) na) na rfl
 subst ex
 cases r1
 obtain ⟨its,rv,pl,hz⟩:=I1.list hq
 have hlen:its.toArray.size=zs.length:=by rw [List.size_toArray,<- rv.length,List.length_map]
 refine zb2 (xs:=zs) (I1.ok.hd hc) pl.isList (by simpa using rv.strs) (by rw [hlen]; unfold scanBound; omega) fun h' tk hS hk=>PyProof.Rows.args_nil ?_
 rw [hlen] at hS
 have hm:=z6x zs zs.length
 obtain ⟨o,es,ep,t,ho,hex,hd,_,_,_,hf,hn⟩:=hS
 have J:Inv X pins σ H1 { s1 with heap:=h',toks:=tk }:=I1.kept fun b o e=>hk b o (Heap.lt_size e) e
 exact call_len_set ho hex hd hf (by rw [hn]; omega) ⟨.int (met zs zs.length).length,H1,J.tok _,⟨_,by rw [hn]⟩,q1⟩
end
section
variable {X:Cx} {CX:CXT} {k:Nat} {f C:Addr} {fd:FuncData} {ps:List Str} {sp:Sp} {E:L2.St->XK} {x m:Str} {p pos apos:Pos} {e o:Expr} {es:List Expr} {ta:TE} {t:TA}
def z4s (C:Addr) (m:Str) (sp:Sp) (E:L2.St->XK) (ta:TE) (t:TA):TE:=fun σ H Q=>ta σ H fun y H1=>∃ a dx fs,y=.ref a/\H1 a=some (.ins C dx fs)/\fs.lookup m=none/\t σ H1 fun vs H2=>sp (y::vs) H2 Q (E σ)
def z73 (C:Addr) (sp:Sp) (E:L2.St->XK) (t:TA):TE:=fun σ H Q=>t σ H fun vs H1=>∀ y dx,H1 y=none->H1 dx=none->dx ≠ y ->
 sp (.ref y::vs) (upd (upd H1 dx (.own y)) y (.ins C dx [])) (fun v H2=>v=.non/\Q (.ref y) H2) (E σ)
theorem z8b {pl:Sem Bool} (ho:PE X o ta) (c:Cls X.K C) (hm:Meth X.K C m f) (F:FnOk X.prog X.w X.K X.mg X.base CX k f fd ps sp) (hr:Room k X.A) (hb:Binds X.K fd ps []) (hx:∀ σ,PassesAt CX X σ (E σ)) (ha:PA X (e::es) t)
  (hst:starEach (e::es) X.env=(false,eval e X.env)::starEach es X.env:=by rfl) (hpl:(backTo pos (starEach es X.env)).any (·.1)=false:=by rfl)
  (ht:eval (.Call (.Attribute o m apos) (e::es) [] pos) X.env=(do
    let ov <- eval o X.env
    standAt apos.atName
    let (g,first) <- holding [ov] (getMethod ov m pl)
    callWith pos g first (backTo pos (starEach (e::es) X.env)) (backToKw pos (keywordEach [] X.env))):=by rfl) :
  PE X (.Call (.Attribute o m apos) (e::es) [] pos) (z4s C m sp E ta t):=by
 refine ⟨fun pins s σ H Q I h=>PySem.W.methodCall_KW (pl:=pl) (thn (ho.run pins s σ H _ I h) fun u s1 ⟨y,H1,I1,ry,a,dx,fs,ey,ea,l,q⟩=>?_) ht⟩
 subst ey
 cases (show u=Value.ref a from ry)
 exact getmeth_ok I1 ea c hm l (PySem.W.callWith_K (first:=[.ref a]) (h₀:=X.base) I.ok.mod.kin hm.kp
  (thn (ha.run pos pins s1 σ H1 _ I1 q) fun us s2 ⟨vs,H2,I2,r,q2⟩=>⟨I2.kIn,run_fnS (us:=.ref a::us) (vs:=.ref a::vs) F hr hb (hx σ) I2 (.cons rfl r) q2⟩) hst hpl)
theorem zb1 {pl:Sem Bool} (ho:PE X o ta) (c:Cls X.K C) (hm:Meth X.K C m f) (F:FnOk X.prog X.w X.K X.mg X.base CX k f fd ps sp) (hr:Room k X.A) (hb:Binds X.K fd ps []) (hx:∀ σ,PassesAt CX X σ (E σ))
  (ht:eval (.Call (.Attribute o m apos) [] [] pos) X.env=(do
    let ov <- eval o X.env
    standAt apos.atName
    let (g,first) <- holding [ov] (getMethod ov m pl)
    callWith pos g first (backTo pos (starEach [] X.env)) (backToKw pos (keywordEach [] X.env))):=by rfl) :
  PE X (.Call (.Attribute o m apos) [] [] pos) (z4s C m sp E ta tNil):=by
 refine ⟨fun pins s σ H Q I h=>PySem.W.methodCall_KW (pl:=pl) (thn (ho.run pins s σ H _ I h) fun u s1 ⟨y,H1,I1,ry,a,dx,fs,ey,ea,l,q⟩=>?_) ht⟩
 subst ey
 cases (show u=Value.ref a from ry)
 exact getmeth_ok I1 ea c hm l (PySem.W.callWith_K0 (first:=[.ref a]) I1.kIn hm.kp (run_fnS (us:=[.ref a]) (vs:=[.ref a]) F hr hb (hx σ) I1 (.cons rfl .nil) q))
theorem zc6 (M:Mk X.K C f) (F:FnOk X.prog X.w X.K X.mg X.base CX k f fd ps sp) (hr:Room (k+1) X.A) (hg:Gl X x) (hm:X.mg x=some (.ref C)) (hb:Binds X.K fd ps []) (hx:∀ σ,PassesAt CX X σ (E σ))
  (ha:PA X (e::es) t) (hdb:(x == ("__debug__":Str))=false:=by decide) (he:starEach (e::es) X.env=(false,eval e X.env)::starEach es X.env:=by rfl) (hpl:(backTo pos (starEach es X.env)).any (·.1)=false:=by rfl) :
  PE X (.Call (.Name x p) (e::es) [] pos) (z73 C sp E t):=by
 refine ⟨fun pins s σ H Q I h=>wpAny_Call_Name_kw (ld_glob I hg hm ?_ hdb)⟩
 refine PySem.W.callWith_K (h₀:=X.base) I.ok.mod.kin M.kp (thn (ha.run pos pins s σ H _ I h) fun us s1 ⟨vs,H1,I1,r,q⟩=>⟨I1.kIn,?_⟩) he hpl
 have hq:=q (s1.heap.objs.size+1) s1.heap.objs.size (I1.hok.fresh (Nat.le_succ _)) (I1.hok.fresh (Nat.le_refl _)) (Nat.ne_of_lt (Nat.lt_succ_self _))
 have J:=Inv.made (C:=C) I1
 have r2:Vals (V.ref (s1.heap.objs.size+1)::vs) (Value.ref (s1.heap.objs.size+1)::us):=.cons rfl r
 have hl:(Value.ref (s1.heap.objs.size+1)::us).length=ps.length:=by rw [<- r2.length]; exact F.len _ _ _ _ hq
 have b:=hb _ (Value.ref (s1.heap.objs.size+1)::us) J.kIn (by rw [List.append_nil]; exact hl)
 rw [List.append_nil] at b
 refine wpAny_call (make_map (f:=f) I1.kIn M.makes M.init (beq_iff_eq.mp M.fn) (codeAny_mono (F.run _ X.stack _ _ ⟨Value.ref (s1.heap.objs.size+1)::us,[]⟩ (Value.ref (s1.heap.objs.size+1)::us) _ _ (E σ) (hr.make C us [])
  (J.env0.make C us []) b r2 hq) fun r s' hq'=>?_))
 match r,hq' with
 | .error er,hq'=>exact hx σ pins _ _ er s' J hq'
 | .ok (.ret u),hq' =>
  obtain ⟨v,H',J3,rv,ev,q3⟩:=J.after hq'
  subst ev
  exact ⟨rv,⟨V.ref (s1.heap.objs.size+1),H',J3,rfl,q3⟩⟩
 | .ok .next,hq'=>exact hq'.elim
 | .ok .brk,hq'=>exact hq'.elim
 | .ok .cont,hq'=>exact hq'.elim
end
/-- a method known by its promise: one that raises nothing,one that may -/
structure GotM (P:Program) (w:World) (K:PySem.W.Frag) (mg:Str->Option Value) (base:Heap) (C:Addr) (m:Str) (ps:List Str) (k:Nat) (sp:Sp):Prop where
 ex:∃ (f:Addr) (fd:FuncData),FnOk P w K mg base CX0 k f fd ps sp/\Meth K C m f/\Binds K fd ps []/\Cls K C
structure z4f (P:Program) (w:World) (K:PySem.W.Frag) (mg:Str->Option Value) (base:Heap) (C:Addr) (m:Str) (ps:List Str) (k:Nat) (sp:Sp):Prop where
 ex:∃ (f:Addr) (fd:FuncData),FnOk P w K mg base (L2.CX P w) k f fd ps sp/\Meth K C m f/\Binds K fd ps []/\Cls K C
/-- a class known by the promise of its __init__ -/
structure GotI (P:Program) (w:World) (K:PySem.W.Frag) (mg:Str->Option Value) (base:Heap) (x:Str) (C:Addr) (ps:List Str) (k:Nat) (sp:Sp):Prop where
 ex:∃ (f:Addr) (fd:FuncData),FnOk P w K mg base (L2.CX P w) k f fd ps sp/\Mk K C f/\Binds K fd ps []/\mg x=some (.ref C)
section
variable {X:Cx} {C:Addr} {x m:Str} {ps:List Str} {k:Nat} {sp:Sp} {e o:Expr} {es:List Expr} {ta:TE} {t:TA} {p pos apos:Pos} {pl:Sem Bool}
theorem z3l (G:GotM X.prog X.w X.K X.mg X.base C m ps k sp) (hr:Room k X.A) (ho:PE X o ta)
  (ht:eval (.Call (.Attribute o m apos) [] [] pos) X.env=(do
    let ov <- eval o X.env
    standAt apos.atName
    let (g,first) <- holding [ov] (getMethod ov m pl)
    callWith pos g first (backTo pos (starEach [] X.env)) (backToKw pos (keywordEach [] X.env))):=by rfl) :
  PE X (.Call (.Attribute o m apos) [] [] pos) (z4s C m sp (fun _=>E0) ta tNil):=by
 obtain ⟨f,fd,h1,h2,h3,h4⟩:=G.ex
 exact zb1 ho h4 h2 h1 hr h3 (fun σ pins H s e s' I c=>pass0 pins σ H s e s' I c) ht
theorem zc0 (G:z4f X.prog X.w X.K X.mg X.base C m ps k sp) (hr:Room k X.A) (ho:PE X o ta) (ha:PA X (e::es) t)
  (hst:starEach (e::es) X.env=(false,eval e X.env)::starEach es X.env:=by rfl) (hpl:(backTo pos (starEach es X.env)).any (·.1)=false:=by rfl)
  (ht:eval (.Call (.Attribute o m apos) (e::es) [] pos) X.env=(do
    let ov <- eval o X.env
    standAt apos.atName
    let (g,first) <- holding [ov] (getMethod ov m pl)
    callWith pos g first (backTo pos (starEach (e::es) X.env)) (backToKw pos (keywordEach [] X.env))):=by rfl) :
  PE X (.Call (.Attribute o m apos) (e::es) [] pos) (z4s C m sp (fun _=>E0) ta t):=by
 obtain ⟨f,fd,h1,h2,h3,h4⟩:=G.ex
 exact z8b ho h4 h2 h1 hr h3 (fun σ pins H s e s' I c=>passL pins σ H s e s' I c) ha hst hpl ht
theorem z8g {W:WX} (G:z4f X.prog X.w X.K X.mg X.base C m ps k sp) (hr:Room k X.A) (tk:Takes X W) (ho:PE X o ta) (ha:PA X (e::es) t)
  (hst:starEach (e::es) X.env=(false,eval e X.env)::starEach es X.env:=by rfl) (hpl:(backTo pos (starEach es X.env)).any (·.1)=false:=by rfl)
  (ht:eval (.Call (.Attribute o m apos) (e::es) [] pos) X.env=(do
    let ov <- eval o X.env
    standAt apos.atName
    let (g,first) <- holding [ov] (getMethod ov m pl)
    callWith pos g first (backTo pos (starEach (e::es) X.env)) (backToKw pos (keywordEach [] X.env))):=by rfl) :
  PE X (.Call (.Attribute o m apos) (e::es) [] pos) (z4s C m sp (WE W) ta t):=by
 obtain ⟨f,fd,h1,h2,h3,h4⟩:=G.ex
 exact z8b ho h4 h2 h1 hr h3 (fun σ=>passAt tk σ) ha hst hpl ht
theorem zgl (G:GotI X.prog X.w X.K X.mg X.base x C ps k sp) (hr:Room (k+1) X.A) (hg:Gl X x) (ha:PA X (e::es) t) (hdb:(x == ("__debug__":Str))=false:=by decide)
  (he:starEach (e::es) X.env=(false,eval e X.env)::starEach es X.env:=by rfl) (hpl:(backTo pos (starEach es X.env)).any (·.1)=false:=by rfl) :
  PE X (.Call (.Name x p) (e::es) [] pos) (z73 C sp (fun _=>E0) t):=by
 obtain ⟨f,fd,h1,h2,h3,h4⟩:=G.ex
 exact zc6 h2 h1 hr hg h4 h3 (fun σ pins H s e s' I c=>passL pins σ H s e s' I c) ha hdb he hpl
end
def z7i (K:PySem.W.Frag) (C:Addr):Sp:=fun vs H Q _=>∃ (a:Addr) (y:V),vs=[.ref a,y]/\OexC K C/\PySem.W.findIn K (.ref C) "kind"=some none/\H a=some (exo a C none)/\∀ dx,H dx=none->dx ≠ a->Q .non (upd (upd H dx (exd dx [("kind",y)])) a (exo a C (some dx)))
structure OwnI (P:Program) (w:World) (K:PySem.W.Frag) (mg:Str->Option Value) (base:Heap) (x:Str) (C:Addr) (k:Nat):Prop where
 gC:mg x=some (.ref C)
 T:OexC K C
 no:PySem.W.findIn K (.ref C) "kind"=some none
 ex:∃ (f:Addr) (fd:FuncData),PySem.W.findIn K (.ref C) "__init__"=some (some (.ref f))/\PySem.W.typeIn K (.ref f)=some (.type "function")/\FnOk P w K mg base CX0 k f fd ["self","kind"] (z7i K C)/\Binds K fd ["self","kind"] []
def zam (K:PySem.W.Frag) (C:Addr):Bool:=(match K.lookup C with
 | some ⟨.type "type",_,.cls cd,sl⟩=>(match cd.mro,sl.toList with
  | .ref D::bm,[_,_,_,_,some (.builtin n),_]=>decide (D=C)&&(n == "ValueError.__new__"&&(!cd.hasDel&&(cd.hasDict&&PySem.HandSPX.refsVE bm)))
  | _,_=>false)
 | _=>false)&&(He.eqO (PySem.W.findIn K (.ref C) "__setattr__") (some (some (.builtin "object.__setattr__")))&&(decide (PySem.W.subIn K (.ref C) (.type "BaseException")=some true)&&(decide (PySem.W.typeIn K (.ref C)=some (.type "type"))&&PySem.W.keepIn K (.ref C))))
theorem z8q {K:PySem.W.Frag} {C:Addr} (h:zam K C=true):OexC K C:=by
 obtain ⟨h1,h⟩:=He.ba h
 obtain ⟨h2,h⟩:=He.ba h
 obtain ⟨h3,h⟩:=He.ba h
 obtain ⟨h4,h5⟩:=He.ba h
 refine ⟨?_,He.eqO_ok h2,of_decide_eq_true h3,of_decide_eq_true h4,h5⟩
 split at h1
 ·rename_i dd cd sl ho
  split at h1
  ·rename_i D bm k0 k1 k2 k3 n k5 hm hs
   obtain ⟨e1,h1⟩:=He.ba h1
   obtain ⟨e2,h1⟩:=He.ba h1
   obtain ⟨e3,h1⟩:=He.ba h1
   obtain ⟨e4,e5⟩:=He.ba h1
   have e1:=of_decide_eq_true e1
   have e2:=beq_iff_eq.mp e2
   obtain ⟨nm,bs,mro,ns,qn,hd,sn,sb,ab,col,del⟩:=cd
   simp only at hm e3 e4
   subst e1 e2 hm e4
   have e3:del=false:=by simpa using e3
   subst e3
   obtain ⟨sl⟩:=sl
   simp only at hs
   subst hs
   exact ⟨nm,qn,ns,bs,bm,sn,sb,ab,col,dd,k0,k1,k2,k3,k5,ho,e5⟩
  ·cases h1
 ·cases h1
/-- a reading that asks less -/
theorem _root_.L2.PE.wide {X:Cx} {e:Expr} {te:TE} (h:PE X e te):PE X e (fun σ H Q=>∃ Q':VK,te σ H Q'/\∀ v H',Q' v H'->Q v H') :=
 ⟨fun pins s σ H Q I ⟨Q',h1,h2⟩=>thn (h.run pins s σ H Q' I h1) fun v s1 ⟨y,H1,I1,r,q⟩=>⟨y,H1,I1,r,h2 _ _ q⟩⟩
section
variable {X:Cx} {C:Addr} {x:Str} {k:Nat} {e:Expr} {te:TE} {p pos:Pos}
def zjm (C:Addr) (te:TE):L2.St->Hp->XK->Prop:=fun σ H Q=>te σ H fun y H1=>∀ d,H1 d=none->Q (.ref C) (some d) (upd H1 d (.xd [("kind",y)]))
theorem z6g (O:OwnI X.prog X.w X.K X.mg X.base x C k) (hr:Room (k+1) X.A) (hg:Gl X x) (he:PE X e te) (hdb:(x == ("__debug__":Str))=false:=by decide)
  (hs:starEach [e] X.env=(false,eval e X.env)::starEach [] X.env:=by rfl) (hpl:(backTo pos (starEach [] X.env)).any (·.1)=false:=by rfl):PMk X (.Call (.Name x p) [e] [] pos) (zjm C te):=by
 obtain ⟨f,fd,h1,h2,h3,h4⟩:=O.ex
 have hw:=pmk_oex (p:=p) O.T h1 h2 h3 hr h4 .nil pass0 hg O.gC (pa_cons (hs:=hs) he.wide pa_nil) hdb hs hpl
 intro pins s σ H Q I h
 refine hw pins s σ H Q I ⟨_,h,fun y H1 q=>?_⟩
 refine ⟨by simp,fun a ha=>⟨a,y,rfl,O.T,O.no,upd_same,fun dx hd ne=>⟨rfl,dx,[("kind",y)],upd_same,?_,?_,?_⟩⟩⟩
 ·rw [upd_ne ne,upd_same]
 ·rw [upd_ne ne] at hd; exact hd
 ·have e:upd (del (upd (upd (upd H1 a (exo a C none)) dx (exd dx [("kind",y)])) a (exo a C (some dx))) a) dx (.xd [("kind",y)])=upd H1 dx (.xd [("kind",y)]):=by
   funext b
   by_cases h1:b=dx
   ·subst h1; rw [upd_same,upd_same]
   ·rw [upd_ne h1,upd_ne h1]
    by_cases h2:b=a
    ·subst h2; rw [del_same,ha]
    ·rw [del_ne h2,upd_ne h2,upd_ne h1,upd_ne h2]
  rw [e]
  rw [upd_ne ne] at hd
  exact q dx hd
end
abbrev Ru:=Gr × Gr
def Ru.enc (r:Ru):PyData:=.tuple [r.1.enc,r.2.enc]
def Ru.within (r:Ru):List (Tr × Int):=r.1.within++r.2.within
structure Kd where
 n:Str
 w:Bool
 rs:List Ru
abbrev Bk:=List Kd
abbrev Bk.names (b:Bk):List Str:=b.map (·.n)
def Kd.rowE (k:Kd):PyData:=.tuple (k.rs.map Ru.enc)
def Bk.get (b:Bk) (n:Str):Option Kd:=b.find? fun k=>decide (k.n=n)
def RuOk (r:Ru):Prop:=r.1.Ok 1000000001/\r.2.Ok 1000000001/\r.1.parts+r.2.parts<=4
def KdOk (ns:List Str) (k:Kd):Prop:=z01 k.n/\k.rs.length<=4/\∀ r ∈ k.rs,RuOk r/\∀ p ∈ Ru.within r,p.1.1 ∈ ns
structure Bk.Ok (b:Bk):Prop where
 pos:1<=b.length
 len:b.length<=8
 nd:b.names.Nodup
 kd:∀ k ∈ b,KdOk b.names k
theorem Ru.noList_enc (r:Ru):z03 (Ru.enc r)=true:=by simp [Ru.enc,z03,z06,Gr.noList_enc]
theorem Kd.noList_rowE (k:Kd):z03 k.rowE=true:=by
 unfold Kd.rowE z03
 induction k.rs with
 | nil=>rfl
 | cons r l ih=>rw [List.map_cons,z06,Ru.noList_enc,ih]; rfl
theorem Bk.get_some {b:Bk} {n:Str} {k:Kd} (h:b.get n=some k):k ∈ b/\k.n=n :=
 ⟨List.mem_of_find?_eq_some h,of_decide_eq_true (List.find?_some (p:=fun k:Kd=>decide (k.n=n)) h)⟩
theorem Bk.get_none {b:Bk} {n:Str} (h:b.get n=none):n ∉ b.names:=fun z=>by
 obtain ⟨k,hk,e⟩:=List.mem_map.mp z
 have:=List.find?_eq_none.mp h k hk
 exact this (decide_eq_true e)
theorem Bk.get_of {b:Bk} {n:Str} (h:n ∈ b.names):∃ k,b.get n=some k:=by
 cases e:b.get n with
 | none=>exact absurd h (Bk.get_none e)
 | some k=>exact ⟨k,rfl⟩
theorem Bk.get_self {b:Bk} (nd:b.names.Nodup) {k:Kd} (hk:k ∈ b):b.get k.n=some k:=by
 induction b with
 | nil=>cases hk
 | cons x r ih =>
  have nd':(x.n::Bk.names r).Nodup:=nd
  unfold Bk.get
  rcases List.mem_cons.mp hk with e | e
  ·subst e; rw [List.find?_cons_of_pos (by simp)]
  ·have:¬ x.n=k.n:=fun z=>(List.nodup_cons.mp nd').1 (by rw [z]; exact List.mem_map.mpr ⟨k,e,rfl⟩)
   rw [List.find?_cons_of_neg (by simpa using this)]
   exact ih (List.nodup_cons.mp nd').2 e
/-- the rows of a book,by their names -/
def Bk.rowKV (b:Bk) (us:List V):List (Key × V):=List.zipWith (fun (k:Kd) (u:V)=>(Sum.inr k.n,u)) b us
def Bk.spKV (b:Bk):List (Key × V):=b.map fun k=>(Sum.inr k.n,V.bl k.w)
theorem Bk.spKV_val (b:Bk) (n:Str):valV b.spKV (Sum.inr n)=(b.get n).map fun k=>V.bl k.w:=by
 induction b with
 | nil=>rfl
 | cons x r ih =>
  by_cases e:x.n=n
  ·subst e
   rw [show Bk.spKV (x::r)=(Sum.inr x.n,V.bl x.w)::Bk.spKV r from rfl,valV_pos rfl]
   simp [Bk.get]
  ·rw [show Bk.spKV (x::r)=(Sum.inr x.n,V.bl x.w)::Bk.spKV r from rfl,valV_neg (by simpa using e),ih]
   simp [Bk.get,e]
theorem Bk.rowKV_val {K:PySem.W.Frag} {H:Hp} (n:Str):∀ {b:Bk} {us:List V},Bears K H Kd.rowE us b->∀ {k:Kd},b.get n=some k->∃ u,valV (b.rowKV us) (Sum.inr n)=some u/\Dp K H u k.rowE
 | [],_,_,k,h=>by cases h
 | x::r,_,.cons (v:=u) (vs:=us) h0 h1,k,h=>by
  have e0:Bk.rowKV (x::r) (u::us)=(Sum.inr x.n,u)::Bk.rowKV r us:=rfl
  by_cases e:x.n=n
  ·subst e
   have:x=k:=by simpa [Bk.get] using h
   subst this
   exact ⟨u,by rw [e0,valV_pos rfl],h0⟩
  ·have h':Bk.get r n=some k:=by simpa [Bk.get,e] using h
   obtain ⟨v,a,c⟩:=Bk.rowKV_val n h1 h'
   exact ⟨v,by rw [e0,valV_neg (by simpa using e)]; exact a,c⟩
abbrev bkF (d1 d2:Addr):List (Str × V):=[("spread_by_name",.ref d1),("rows_by_name",.ref d2)]
/-- v is an instance of the class at C that holds the book b -/
def BkA (K:PySem.W.Frag) (C:Addr) (H:Hp) (v:V) (b:Bk):Prop:=∃ (a dx d1 d2:Addr) (us:List V),v=.ref a/\H a=some (.ins C dx (bkF d1 d2))/\H d1=some (.dK b.spKV)/\H d2=some (.dK (b.rowKV us))/\Bears K H Kd.rowE us b
def Lsts (H:Hp) (ps:List Addr):Prop:=∀ p ∈ ps,H p=none\/∃ xs,H p=some (.lst xs)
theorem Lsts.nil {H:Hp}:Lsts H []:=fun _ h=>nomatch h
theorem Lsts.one {H:Hp} {p:Addr} {xs:List V} (h:H p=some (.lst xs)):Lsts H [p]:=fun q z=>by rw [List.mem_singleton.mp z]; exact .inr ⟨xs,h⟩
theorem Lsts.cons {H:Hp} {p:Addr} {xs:List V} {ps:List Addr} (h:H p=some (.lst xs)) (hs:Lsts H ps):Lsts H (p::ps):=fun q z=>by
 rcases List.mem_cons.mp z with z | z
 ·rw [z]; exact .inr ⟨xs,h⟩
 ·exact hs q z
theorem Lsts.notin {H:Hp} {ps:List Addr} (h:Lsts H ps) {a:Addr} {o:HO} (e:H a=some o) (n:∀ xs,o ≠ .lst xs):a ∉ ps:=fun z=>by
 rcases h a z with q | ⟨xs,q⟩
 ·rw [e] at q; cases q
 ·rw [e] at q; exact n xs (Option.some.inj q)
section
variable {K:PySem.W.Frag} {C:Addr} {H H':Hp} {v:V} {b:Bk} {ps:List Addr}
theorem BkA.sb (h:BkA K C H v b) (e:SB ps H H') (hp:Lsts H ps):BkA K C H' v b:=by
 obtain ⟨a,dx,d1,d2,us,rfl,h1,h2,h3,h4⟩:=h
 exact ⟨a,dx,d1,d2,us,rfl,e.keep _ _ h1 (hp.notin h1 fun _ z=>nomatch z),e.keep _ _ h2 (hp.notin h2 fun _ z=>nomatch z),e.keep _ _ h3 (hp.notin h3 fun _ z=>nomatch z),h4.sb e Kd.noList_rowE⟩
theorem BkA.sb0 (h:BkA K C H v b) (e:SB [] H H'):BkA K C H' v b:=h.sb e Lsts.nil
theorem BkA.at (h:BkA K C H v b):∃ a dx d1 d2,v=.ref a/\H a=some (.ins C dx (bkF d1 d2)):=by
 obtain ⟨a,dx,d1,d2,us,e,h1,_⟩:=h
 exact ⟨a,dx,d1,d2,e,h1⟩
end
/-- what a class has: its fields are in no class of it -/
structure ClsF (K:PySem.W.Frag) (C:Addr) (fs:List Str):Prop where
 c:Cls K C
 no:∀ f ∈ fs,NoAttr K C f
def z1k (K:PySem.W.Frag) (C:Addr):Sp:=fun vs H Q _=>∃ (v:V) (b:Bk),vs=[v]/\BkA K C H v b/\b.length<=1000/\∀ (l:Addr) (H':Hp),SB [] H H'->H l=none->H' l=some (.lst (b.names.map V.str))->Q (.ref l) H'
/-- n is a kind of b,or the error of the class at N has it as its field -/
def z38 (N:Addr) (b:Bk) (n:Str) (H:Hp) (E:XK) (q:Kd->Prop):Prop:=(∀ k,b.get n=some k->q k)/\(b.get n=none->∀ (d:Addr) (H':Hp),SB [] H H'->H d=none->H' d=some (.xd [("kind",.str n)])->E (.ref N) (some d) H')
def z28 (K:PySem.W.Frag) (C N:Addr):Sp:=fun vs H Q E=>∃ (v:V) (b:Bk) (n:Str),vs=[v,.str n]/\BkA K C H v b/\b.length<=1000/\z38 N b n H E fun _=>∀ H',SB [] H H'->Q .non H'
def z44 (K:PySem.W.Frag) (C N:Addr):Sp:=fun vs H Q E=>∃ (v:V) (b:Bk) (n:Str),vs=[v,.str n]/\BkA K C H v b/\b.length<=1000/\z38 N b n H E fun k=>∀ H',SB [] H H'->Q (.bl k.w) H'
def z3p (K:PySem.W.Frag) (C N:Addr):Sp:=fun vs H Q E=>∃ (v:V) (b:Bk) (n:Str),vs=[v,.str n]/\BkA K C H v b/\b.length<=1000/\(∀ k ∈ b,k.rs.length<=1000) /\
 z38 N b n H E fun k=>∀ (l:Addr) (us:List V) (H':Hp),SB [] H H'->H l=none->H' l=some (.lst us)->Bears K H' Ru.enc us k.rs->Q (.ref l) H'
inductive KT where
 | other
 | three (d:PyData) (w:Option Bool) (rs:Option (List PyData))
def Kd.kt (k:Kd):KT:=.three (.str k.n) (some k.w) (some (k.rs.map Ru.enc))
/-- a thing that is no tuple of three,or a tuple of three: of any thing,a truth or not,a list of things or not -/
def KTA (K:PySem.W.Frag) (H:Hp) (v:V):KT->Prop
 | .other=>∃ d,Tg K H v d/\∀ ds,d=.tuple ds->ds.length ≠ 3
 | .three d w rs=>∃ (t:Addr) (x y z:V),v=.ref t/\SqT K H t [x,y,z]/\Tg K H x d/\(match w with
   | some b=>y=.bl b
   | none=>∃ n,TyX K H y (.type n)/\kitB n "bool"=some false)/\(match rs with
   | some ds=>∃ (l:Addr) (zs:List V),z=.ref l/\H l=some (.lst zs)/\TgAll K H zs ds
   | none=>∃ n,TyX K H z (.type n)/\kitB n "list"=some false)
/-- a rule,as a datum -/
def RuD (d:PyData):Prop:=∃ r:Ru,d=Ru.enc r/\RuOk r
/-- what is looked at is not too great -/
def zai (d:PyData):Prop:=d.depth<=60/\wide d<=1000/\∀ a b,d=.tuple [a,b]->∀ g:Gr,a=g.enc\/b=g.enc->g.deep<=18/\g.parts<=450
def z87:KT->Prop
 | .other=>True
 | .three d w rs=>∀ ds,rs=some ds->ds.length<=1000/\∀ x ∈ ds,zai x
def KTKd (t:KT):Prop:=∃ k:Kd,t=k.kt/\z01 k.n/\k.rs.length<=4/\∀ r ∈ k.rs,RuOk r
def KTBk (ts:List KT):Prop:=∃ b:Bk,ts=b.map Kd.kt/\Bk.Ok b
inductive KTAll (K:PySem.W.Frag) (H:Hp):List V->List KT->Prop
 | nil:KTAll K H [] []
 | cons {v:V} {t:KT} {vs:List V} {ts:List KT}:KTA K H v t->KTAll K H vs ts->KTAll K H (v::vs) (t::ts)
def z3h (K:PySem.W.Frag):Sp:=fun vs H Q _=>∃ (v:V) (d:PyData),vs=[v]/\Tg K H v d/\zai d/\∀ (b:Bool) (H':Hp),SB [] H H'->(b=true ↔ RuD d)->Q (.bl b) H'
def z6l (K:PySem.W.Frag):Sp:=fun vs H Q _=>∃ (v:V) (t:KT),vs=[v]/\KTA K H v t/\z87 t/\∀ (b:Bool) (H':Hp),SB [] H H'->(b=true ↔ KTKd t)->Q (.bl b) H'
def z1z (K:PySem.W.Frag):Sp:=fun vs H Q _=>∃ (v:V) (l:Addr) (r:Ru) (ns:List Str),vs=[v,.ref l]/\Dp K H v (Ru.enc r)/\RuOk r/\SqL K H l (ns.map V.str)/\ns.length<=1000/\∀ H',SB [] H H'->Q (.bl (decide (∀ p ∈ Ru.within r,p.1.1 ∈ ns))) H'
def z3g (K:PySem.W.Frag):Sp:=fun vs H Q _=>∃ (l:Addr) (xs:List V) (ts:List KT),vs=[.ref l]/\SqL K H l xs/\KTAll K H xs ts/\(∀ t ∈ ts,z87 t)/\ts.length<=1000/\∀ (b:Bool) (H':Hp),SB [] H H'->(b=true ↔ KTBk ts)->Q (.bl b) H'
/-- Book(kinds): x is the new instance -/
def z2z (K:PySem.W.Frag) (C B:Addr):Sp:=fun vs H Q E=>∃ (x dx l:Addr) (xs:List V) (ts:List KT),vs=[.ref x,.ref l]/\H x=some (.ins C dx [])/\H dx=some (.own x)/\H l=some (.lst xs)/\KTAll K H xs ts/\(∀ t ∈ ts,z87 t)/\ts.length<=1000 /\
 (∀ b:Bk,ts=b.map Kd.kt->b.Ok->∀ H',SB [x] H H'->BkA K C H' (.ref x) b->Q .non H')/\(¬ KTBk ts->∀ H',SB [] H H'->E (.ref B) none H')
theorem z11 (n:Str) (zs:List Str):inV (.str n) (zs.map V.str)=decide (n ∈ zs):=by
 induction zs with
 | nil=>rfl
 | cons z r ih =>
  show ((z == n) || inV (.str n) (r.map V.str))=_
  rw [ih]
  by_cases e:z=n
  ·subst e; simp
  ·have e':¬ n=z:=fun y=>e y.symm
   rw [show (z == n)=false from beq_eq_false_iff_ne.mpr e,Bool.false_or]
   by_cases h:n ∈ r <;> simp [h,e']
theorem z0r (zs:List Str):(zs.map V.str).all flatV=true:=by simp [flatV]
theorem getK {H:Hp} {d:Addr} {kvs:List (Key × V)} {n:Str} {v:V} (h:H d=some (.dK kvs)) (e:valV kvs (Sum.inr n)=some v):DGet H d (.str n) (some v):=.inl ⟨kvs,Sum.inr n,.inl h,rfl,e.symm⟩
theorem Bk.get_isSome (b:Bk) (n:Str):decide (n ∈ b.names)=(b.get n).isSome:=by
 cases e:b.get n with
 | none=>simpa using Bk.get_none e
 | some k=>simpa using List.mem_map.mpr ⟨k,(Bk.get_some e).1,(Bk.get_some e).2⟩
section
variable {J:It} {n:Nat} {G:Hp->Prop} {Y:Nat->Hp->V->Hp->Prop}
theorem z0f (w:Walk J n G Y) {g:TG} {tt:TT} {te:TE} {vs:List Nat} {σ:L2.St} {H:Hp} {D:Addr} {Qd:Hp->Prop} (hD:H D=none) (hn:n < sizeLine) (R:Nat->List V->Hp->Prop) (h0:R 0 [] H) (hG:∀ H2,SB [] H H2->G H2)
  (st:∀ i us H2 H3,SB [D] H2 H3->R i us H2->R i us H3)
  (turn:∀ (Pv:Hp->Prop) i x H2 H' us,i < n->SB [] H H2->Y i H2 x H'->R i us H2->us.length<=i->(∀ y H5,SB [] H2 H5->R (i+1) (us++[y]) H5->∃ acc,H5 D=some (.lst acc)/\acc.length < sizeLine/\Pv (upd H5 D (.lst (acc++[y])))) ->
   (∀ H4,SB [] H2 H4->R (i+1) us H4->Pv H4)->g x (wipe σ vs) H' fun σ2 H3=>wipe σ2 vs=wipe σ vs/\tt σ2 H3 fun b H4 =>
    if b=true then te σ2 H4 fun y H5=>∃ acc,H5 D=some (.lst acc)/\acc.length < sizeLine/\Pv (upd H5 D (.lst (acc++[y]))) else Pv H4)
  (done:∀ us H2,SB [] H H2->H2 D=some (.lst us)->R n us H2->us.length<=n->Qd H2) :
  ∃ W:Nat->Nat->Hp->Prop,(∃ m,W 0 m (upd H D (.lst [])))/\∀ i m H,W i m H ->
   (J.stop i H/\Qd H)\/(J.go i H/\∃ Nx:Hp->Prop,(∀ H',Nx H'->∃ m',m' < m/\W (i+1) m' H')/\∀ x H',J.yld i H x H'->g x (wipe σ vs) H' fun σ2 H2=>wipe σ2 vs=wipe σ vs/\tt σ2 H2 fun b H3 =>
    if b=true then te σ2 H3 fun y H4=>∃ acc,H4 D=some (.lst acc)/\acc.length < sizeLine/\Nx (upd H4 D (.lst (acc++[y]))) else Nx H3):=by
 refine lc_it w (fun i H2=>SB [D] H H2/\∃ us,H2 D=some (.lst us)/\R i us H2/\us.length<=i) ⟨SB.new hD _,[],upd_same,st _ _ _ _ (SB.new hD _) h0,Nat.le_refl _⟩ (fun i H2 _ h=>hG H2 (h.1.drop hD)) (fun i x H2 H' hi h y=>?_) (fun H2 h=>?_)
 ·obtain ⟨s2,us,hD2,hR,hl⟩:=h
  refine turn _ i x H2 H' us hi (s2.drop hD) y hR hl (fun y H5 s5 r5=>?_) (fun H4 s4 r4=>⟨s2.trans s4.nil,us,s4.keep _ _ hD2 nmn,r4,by omega⟩)
  have hD5:=s5.keep _ _ hD2 nmn
  refine ⟨us,hD5,by omega,(s2.trans s5.nil).trans (SB.set hD5 (by simp) _),_,upd_same,st _ _ _ _ (SB.set hD5 (by simp) _) r5,?_⟩
  rw [List.length_append,List.length_singleton]; omega
 ·obtain ⟨s2,us,hD2,hR,hl⟩:=h
  exact done us H2 (s2.drop hD) hD2 hR hl
end
theorem z7m {C:Int}:∀ {g:Gr},z09 g.enc=true->(∀ p ∈ g.within,p.2 < C)->g.Ok C:=by
 have key:∀ (g:Gr),(∀ p ∈ g.within,p.2 < C)->grPs g.encs=true->(z39 (g.encs.map exp0)=true->g.Ok C):=by
  intro g
  induction g with
  | nil=>intro _ _ _; trivial
  | cons k g m r ihg ihr =>
   intro hb hps hri
   have hb1:∀ p ∈ g.within,p.2 < C:=fun p hp=>hb p (mcm _ (mal _ hp))
   have hb2:∀ p ∈ r.within,p.2 < C:=fun p hp=>hb p (mcm _ (mar _ hp))
   have e:(Gr.cons k g m r).encs=Gr.pEnc ((k,g),m)::r.encs:=rfl
   rw [e,grPs,Bool.and_eq_true] at hps
   rw [e,List.map_cons] at hri
   have hp:grP (.tuple [.tuple [.str k,.tuple g.encs],.int m])=true:=hps.1
   rw [grP,grP2,Bool.and_eq_true,z0g,trD2,Bool.and_eq_true,trD3,Bool.and_eq_true,z09,Bool.and_eq_true,z0u,Bool.and_eq_true] at hp
   obtain ⟨⟨hn,⟨hgp,hgr⟩,_⟩,hmm,_⟩:=hp
   have hname:z01 k:=by
    obtain ⟨z,ez,hz⟩:=z4t hn
    cases ez; exact hz
   have hri2:z39 (r.encs.map exp0)=true:=by
    cases hre:r.encs with
    | nil=>rfl
    | cons d ds =>
     rw [hre,List.map_cons] at hri
     have:(dataLt (exp0 (Gr.pEnc ((k,g),m))) (exp0 d)::ltsD (exp0 d::ds.map exp0)).all id=true:=hri
     rw [List.all_cons,Bool.and_eq_true] at this
     rw [List.map_cons]; exact this.2
   have hro:=ihr hb2 hps.2 hri2
   refine ⟨hname,ihg hb1 hgp hgr,of_decide_eq_true hmm,hb _ (mcs ..),hro,fun p hpm=>?_⟩
   cases r with
   | nil=>cases hpm
   | cons k2 g2 m2 r2 =>
    have h12:dataLt (Gr.tEnc (k,g)) (Gr.tEnc (k2,g2))=true:=by
     have:(dataLt (Gr.tEnc (k,g)) (Gr.tEnc (k2,g2))::ltsD (Gr.tEnc (k2,g2)::r2.encs.map exp0)).all id=true:=hri
     rw [List.all_cons,Bool.and_eq_true] at this
     exact this.1
    rcases List.mem_cons.mp hpm with h | h
    ·subst h; exact h12
    ·exact z3d h12 (hro.2.2.2.2.2 p h)
 intro g hg hb
 rw [Gr.enc,z09,Bool.and_eq_true] at hg
 exact key g hb hg.1 hg.2
theorem z2k {C:Int}:∀ {g:Gr},g.Ok C->∀ p ∈ g.within,z01 p.1.1/\p.1.2.Ok C/\1<=p.2/\p.2 < C
 | .nil,_,p,h=>by cases h
 | .cons k g m r,⟨h0,h1,h2,h3,h4,_⟩,p,h=>by
  rcases List.mem_cons.mp h with h | h
  ·subst h; exact ⟨h0,h1,h2,h3⟩
  ·rcases List.mem_append.mp h with h | h
   ·exact z2k h1 p h
   ·exact z2k h4 p h
theorem Gr.enc_inj {g h:Gr} (e:g.enc=h.enc):g=h:=by
 have:=Gr.eqv_enc g h
 rw [e,Gr.eqv_enc h h,decide_eq_true rfl] at this
 exact of_decide_eq_true this.symm
/-- a rule,by what is looked at -/
theorem zfm {g h:Gr} (hg:z09 g.enc=true) (hh:z09 h.enc=true):RuD (.tuple [g.enc,h.enc]) ↔ g.parts+h.parts<=4/\∀ p ∈ g.within++h.within,p.2<=1000000000:=by
 constructor
 ·rintro ⟨r,e,h1,h2,h3⟩
  have e':PyData.tuple [g.enc,h.enc]=.tuple [r.1.enc,r.2.enc]:=e
  injection e' with e'
  injection e' with a e'
  injection e' with b _
  rw [Gr.enc_inj a,Gr.enc_inj b]
  refine ⟨h3,fun p hp=>?_⟩
  rcases List.mem_append.mp hp with hp | hp
  ·have:=(z2k h1 p hp).2.2.2; omega
  ·have:=(z2k h2 p hp).2.2.2; omega
 ·rintro ⟨h1,h2⟩
  exact ⟨(g,h),rfl,z7m hg fun p hp=>by have:=h2 p (mal _ hp); omega,z7m hh fun p hp=>by have:=h2 p (mar _ hp); omega,h1⟩
theorem z9g {d:PyData} (h:RuD d):∃ g k:Gr,d=.tuple [g.enc,k.enc]/\z09 g.enc=true/\z09 k.enc=true:=by
 obtain ⟨r,e,h1,h2,_⟩:=h
 exact ⟨r.1,r.2,e,z2i h1,z2i h2⟩
theorem z07:∀ g:Gr,g.deep<=g.parts
 | .nil=>Nat.le_refl _
 | .cons k g m r=>by
  have h1:=z07 g
  have h2:=z07 r
  show max (1+g.deep) r.deep<=1+g.parts+r.parts
  omega
theorem z9v:∀ {ds:List PyData},(∀ x ∈ ds,RuD x)->∃ rs:List Ru,ds=rs.map Ru.enc/\∀ r ∈ rs,RuOk r
 | [],_=>⟨[],rfl,fun _ h=>nomatch h⟩
 | d::ds,h=>by
  obtain ⟨r,e,hr⟩:=h d (mcs ..)
  obtain ⟨rs,e2,hrs⟩:=z9v fun x hx=>h x (mcm _ hx)
  refine ⟨r::rs,by rw [e,e2]; rfl,fun x hx=>?_⟩
  rcases List.mem_cons.mp hx with hx | hx
  ·rw [hx]; exact hr
  ·exact hrs x hx
theorem zik {K:PySem.W.Frag} {H:Hp} {a:Addr} {xs:List V} (h:SqL K H a xs):TyX K H (.ref a) (.type "list"):=by
 rcases h with (h | ⟨o,h⟩) | ⟨o,its,n,h,c,_⟩
 ·exact .base (.lst h)
 ·exact .base (.frz h)
 ·exact .kList h c
section
variable {K:PySem.W.Frag} {H H':Hp}
theorem zbg (e:SB [] H H'):∀ {t:KT} {v:V},KTA K H v t->KTA K H' v t
 | .other,v,⟨d,h1,h2⟩=>⟨d,z1p e h1,h2⟩
 | .three d w rs,v,⟨t,x,y,z,e0,h1,h2,h3,h4⟩=>by
  refine ⟨t,x,y,z,e0,e.sqT h1,z1p e h2,?_,?_⟩
  ·cases w with
   | some b=>exact h3
   | none =>
    obtain ⟨n,a,b⟩:=h3
    exact ⟨n,z2u e (fun _ _=>nmn) a,b⟩
  ·cases rs with
   | some ds =>
    obtain ⟨l,zs,e1,h5,h6⟩:=h4
    exact ⟨l,zs,e1,e.keep _ _ h5 nmn,z6p e h6⟩
   | none =>
    obtain ⟨n,a,b⟩:=h4
    exact ⟨n,z2u e (fun _ _=>nmn) a,b⟩
theorem KTAll.sb (e:SB [] H H'):∀ {vs:List V} {ts:List KT},KTAll K H vs ts->KTAll K H' vs ts
 | _,_,.nil=>.nil
 | _,_,.cons h t=>.cons (zbg e h) (KTAll.sb e t)
theorem KTAll.length:∀ {vs:List V} {ts:List KT},KTAll K H vs ts->vs.length=ts.length
 | _,_,.nil=>rfl
 | _,_,.cons h t=>by rw [List.length_cons,List.length_cons,KTAll.length t]
theorem KTAll.get:∀ {vs:List V} {ts:List KT} {i:Nat} {v:V},KTAll K H vs ts->vs[i]?=some v->∃ t,ts[i]?=some t/\KTA K H v t
 | _,_,i,v,.nil,h=>by simp at h
 | _,_,0,v,.cons h t,e=>by simp at e; subst e; exact ⟨_,rfl,h⟩
 | _,_,i+1,v,.cons h t,e=>by
  simp at e
  obtain ⟨t',e',h'⟩:=KTAll.get (i:=i) t e
  exact ⟨t',by simpa using e',h'⟩
theorem zbo:∀ {ts:List KT},(∀ t ∈ ts,KTKd t)->∃ b:Bk,ts=b.map Kd.kt/\∀ k ∈ b,z01 k.n/\k.rs.length<=4/\∀ r ∈ k.rs,RuOk r
 | [],_=>⟨[],rfl,fun _ h=>nomatch h⟩
 | t::ts,h=>by
  obtain ⟨k,e,hk⟩:=h t (mcs ..)
  obtain ⟨b,e2,hb⟩:=zbo fun x hx=>h x (mcm _ hx)
  refine ⟨k::b,by rw [e,e2]; rfl,fun x hx=>?_⟩
  rcases List.mem_cons.mp hx with hx | hx
  ·rw [hx]; exact hk
  ·exact hb x hx
theorem zh3 {k j:Kd} (e:k.kt=j.kt):k=j:=by
 obtain ⟨n,w,rs⟩:=k
 obtain ⟨n2,w2,rs2⟩:=j
 injection e with e1 e2 e3
 injection e1 with e1
 injection e2 with e2
 injection e3 with e3
 have e3:rs.map Ru.enc=rs2.map Ru.enc:=e3
 have e1:n=n2:=e1
 have e2:w=w2:=e2
 subst e1 e2
 have:rs=rs2:=by
  refine (List.map_inj_right ?_).mp e3
  intro x y h
  have h':PyData.tuple [x.1.enc,x.2.enc]=.tuple [y.1.enc,y.2.enc]:=h
  injection h' with h'
  injection h' with a h'
  injection h' with b _
  exact Prod.ext (Gr.enc_inj a) (Gr.enc_inj b)
 rw [this]
theorem z7b {b c:Bk} (e:b.map Kd.kt=c.map Kd.kt):b=c:=(List.map_inj_right (fun _ _=>zh3)).mp e
theorem z63:∀ {rs:List Ru} {zs:List V},TgAll K H zs (rs.map Ru.enc)->Bears K H Ru.enc zs rs
 | [],_,.nil=>.nil
 | r::rs,_,.cons h t=>by
  refine .cons ?_ (z63 t)
  cases (h:Tg K H _ (.tuple [r.1.enc,r.2.enc])) with
  | tup hs ha =>
   cases ha with
   | cons h1 ha =>
   cases ha with
   | cons h2 ha =>
   cases ha
   cases h1 with
   | tup a1 b1 =>
   cases h2 with
   | tup a2 b2=>exact .tup hs (.cons (.tup a1 (z3i r.1 b1)) (.cons (.tup a2 (z3i r.2 b2)) .nil))
/-- v is a tuple of a name,a truth and a list of rules,which is none of bad: those of k -/
def KdA (K:PySem.W.Frag) (H:Hp) (bad:List Addr) (v:V) (k:Kd):Prop:=∃ (t l:Addr) (zs:List V),v=.ref t/\SqT K H t [.str k.n,.bl k.w,.ref l]/\H l=some (.lst zs)/\Bears K H Ru.enc zs k.rs/\l ∉ bad
theorem zgz {k:Kd} {v:V} (h:KTA K H v k.kt):KdA K H [] v k:=by
 obtain ⟨t,x,y,z,e0,h1,h2,h3,l,zs,rfl,h5,h6⟩:=h
 have h3:y=.bl k.w:=h3
 subst h3
 cases h2
 exact ⟨t,l,zs,e0,h1,h5,z63 h6,nmn⟩
def NoLst (H:Hp) (bad ps:List Addr):Prop:=∀ p ∈ ps,p ∈ bad\/∀ xs,H p ≠ some (.lst xs)
theorem NoLst.nil {bad:List Addr}:NoLst H bad []:=fun _ z=>nomatch z
theorem NoLst.self {bad:List Addr}:NoLst H bad bad:=fun _ z=>.inl z
theorem KdA.sb {k:Kd} {v:V} {ps bad:List Addr} (h:KdA K H bad v k) (e:SB ps H H') (n:NoLst H bad ps):KdA K H' bad v k:=by
 obtain ⟨t,l,zs,e0,h1,h2,h3,h4⟩:=h
 exact ⟨t,l,zs,e0,e.sqT h1,e.keep _ _ h2 fun z=>(n _ z).elim h4 fun y=>y _ h2,h3.sb e Ru.noList_enc,h4⟩
inductive KdAll (K:PySem.W.Frag) (H:Hp) (bad:List Addr):List V->Bk->Prop
 | nil:KdAll K H bad [] []
 | cons {v:V} {k:Kd} {vs:List V} {b:Bk}:KdA K H bad v k->KdAll K H bad vs b->KdAll K H bad (v::vs) (k::b)
theorem KdAll.sb {ps bad:List Addr} (e:SB ps H H') (n:NoLst H bad ps):∀ {vs:List V} {b:Bk},KdAll K H bad vs b->KdAll K H' bad vs b
 | _,_,.nil=>.nil
 | _,_,.cons h t=>.cons (h.sb e n) (KdAll.sb e n t)
theorem KdAll.less {bad bad':List Addr} (hb:∀ x ∈ bad',x ∈ bad):∀ {vs:List V} {b:Bk},KdAll K H bad vs b->KdAll K H bad' vs b
 | _,_,.nil=>.nil
 | _,_,.cons ⟨t,l,zs,h1,h2,h3,h4,h5⟩ r=>.cons ⟨t,l,zs,h1,h2,h3,h4,fun z=>h5 (hb l z)⟩ (KdAll.less hb r)
theorem KdAll.append {bad:List Addr}:∀ {xs ys:List V} {bs cs:Bk},KdAll K H bad xs bs->KdAll K H bad ys cs->KdAll K H bad (xs++ys) (bs++cs)
 | _,_,_,_,.nil,h=>h
 | _,_,_,_,.cons a b,h=>.cons a (KdAll.append b h)
theorem KdAll.length {bad:List Addr}:∀ {vs:List V} {ts:Bk},KdAll K H bad vs ts->vs.length=ts.length
 | _,_,.nil=>rfl
 | _,_,.cons h t=>by rw [List.length_cons,List.length_cons,KdAll.length t]
theorem KdAll.get {bad:List Addr}:∀ {vs:List V} {ts:Bk} {i:Nat} {v:V},KdAll K H bad vs ts->vs[i]?=some v->∃ t,ts[i]?=some t/\KdA K H bad v t
 | _,_,i,v,.nil,h=>by simp at h
 | _,_,0,v,.cons h t,e=>by simp at e; subst e; exact ⟨_,rfl,h⟩
 | _,_,i+1,v,.cons h t,e=>by
  simp at e
  obtain ⟨t',e',h'⟩:=KdAll.get (i:=i) t e
  exact ⟨t',by simpa using e',h'⟩
theorem KTAll.kd:∀ {b:Bk} {vs:List V},KTAll K H vs (b.map Kd.kt)->KdAll K H [] vs b
 | [],_,.nil=>.nil
 | k::b,_,.cons h t=>.cons (zgz h) (KTAll.kd t)
theorem z65 {zs:List V}:∀ {rs:List Ru} {zs:List V},(∀ r ∈ rs,RuOk r)->Bears K H Ru.enc zs rs->TgAll K H zs (rs.map Ru.enc)
 | [],_,_,.nil=>.nil
 | r::rs,_,ok,.cons h t=>by
  refine .cons ?_ (z65 (zs:=zs) (fun x hx=>ok x (mcm _ hx)) t)
  obtain ⟨o1,o2,_⟩:=ok r (mcs ..)
  cases (h:Dp K H _ (.tuple [r.1.enc,r.2.enc])) with
  | tup hs ha =>
   cases ha with
   | cons h1 ha =>
   cases ha with
   | cons h2 ha =>
   cases ha
   exact .tup hs (.cons (z8l o1 h1) (.cons (z8l o2 h2) .nil))
theorem KdAll.kt {bad:List Addr}:∀ {b:Bk} {vs:List V},(∀ k ∈ b,z01 k.n/\∀ r ∈ k.rs,RuOk r)->KdAll K H bad vs b->KTAll K H vs (b.map Kd.kt)
 | [],_,_,.nil=>.nil
 | k::b,_,ok,.cons h t=>by
  refine .cons ?_ (KdAll.kt (fun x hx=>ok x (mcm _ hx)) t)
  obtain ⟨t,l,zs,e0,h1,h2,h3,_⟩:=h
  obtain ⟨o1,o2⟩:=ok k (mcs ..)
  exact ⟨t,_,_,_,e0,h1,.str _ (za7 o1),rfl,l,zs,rfl,h2,z65 (zs:=zs) o2 h3⟩
theorem zcz {r:Ru} (h:RuOk r):zai (Ru.enc r):=by
 obtain ⟨h1,h2,h3⟩:=h
 have d1:=z07 r.1
 have d2:=z07 r.2
 have e1:=r.1.encs_depth
 have e2:=r.2.encs_depth
 obtain ⟨w1,w2⟩:=z4d r.1
 obtain ⟨w3,w4⟩:=z4d r.2
 refine ⟨?_,?_,fun a b e g hg=>?_⟩
 ·show PyData.depth (.tuple [.tuple r.1.encs,.tuple r.2.encs])<=60
  simp only [PyData.depth,PyData.depthAll]; omega
 ·show wide (.tuple [.tuple r.1.encs,.tuple r.2.encs])<=1000
  simp only [wide,z0w,List.length_cons,List.length_nil]; omega
 ·have e':PyData.tuple [r.1.enc,r.2.enc]=.tuple [a,b]:=e
  injection e' with e'
  injection e' with ea e'
  injection e' with eb _
  rcases hg with hg | hg
  ·rw [<- ea] at hg; rw [<- Gr.enc_inj hg]; omega
  ·rw [<- eb] at hg; rw [<- Gr.enc_inj hg]; omega
theorem zd8 {k:Kd} (h:k.rs.length<=4/\∀ r ∈ k.rs,RuOk r):z87 k.kt:=by
 intro ds e
 have e:some (k.rs.map Ru.enc)=some ds:=e
 injection e with e
 subst e
 refine ⟨by rw [List.length_map]; omega,fun x hx=>?_⟩
 obtain ⟨r,hr,rfl⟩:=List.mem_map.mp hx
 exact zcz (h.2 r hr)
end
section
variable {J:It} {n:Nat} {G:Hp->Prop} {Y:Nat->Hp->V->Hp->Prop}
theorem zaw (w:Walk J n G Y) {g:TG} {tt:TT} {tk tv:TE} {vs:List Nat} {σ:L2.St} {H:Hp} {D:Addr} {Qd:Hp->Prop} (hD:H D=none) (hn:n < sizeLine) (R:Nat->List (Key × V)->Hp->Prop) (h0:R 0 [] H) (hG:∀ H2,SB [] H H2->G H2)
  (st:∀ i us H2 H3,SB [D] H2 H3->R i us H2->R i us H3)
  (turn:∀ (Pv:Hp->Prop) i x H2 H' kvs,i < n->SB [] H H2->Y i H2 x H'->R i kvs H2->kvs.length<=i->(∀ k z H5,SB [] H2 H5->R (i+1) (putK kvs k z) H5->∃ kvs k',kV k=kV k'/\H5 D=some (.dK kvs)/\kvs.length < sizeLine/\Pv (upd H5 D (.dK (putK kvs k' z)))) ->
   (∀ H4,SB [] H2 H4->R (i+1) kvs H4->Pv H4)->g x (wipe σ vs) H' fun σ2 H3=>wipe σ2 vs=wipe σ vs/\tt σ2 H3 fun b H4 =>
    if b=true then tk σ2 H4 fun y H5=>tv σ2 H5 fun z H6=>∃ kvs k,y=kV k/\H6 D=some (.dK kvs)/\kvs.length < sizeLine/\Pv (upd H6 D (.dK (putK kvs k z))) else Pv H4)
  (done:∀ kvs H2,SB [] H H2->H2 D=some (.dK kvs)->R n kvs H2->kvs.length<=n->Qd H2) :
  ∃ W:Nat->Nat->Hp->Prop,(∃ m,W 0 m (upd H D (.dK [])))/\∀ i m H,W i m H ->
   (J.stop i H/\Qd H)\/(J.go i H/\∃ Nx:Hp->Prop,(∀ H',Nx H'->∃ m',m' < m/\W (i+1) m' H')/\∀ x H',J.yld i H x H'->g x (wipe σ vs) H' fun σ2 H2=>wipe σ2 vs=wipe σ vs/\tt σ2 H2 fun b H3 =>
    if b=true then tk σ2 H3 fun y H4=>tv σ2 H4 fun z H5=>∃ kvs k,y=kV k/\H5 D=some (.dK kvs)/\kvs.length < sizeLine/\Nx (upd H5 D (.dK (putK kvs k z))) else Nx H3):=by
 refine lcG (body:=fun Nx x H'=>g x (wipe σ vs) H' fun σ2 H2=>wipe σ2 vs=wipe σ vs/\tt σ2 H2 fun b H3 =>
    if b=true then tk σ2 H3 fun y H4=>tv σ2 H4 fun z H5=>∃ kvs k,y=kV k/\H5 D=some (.dK kvs)/\kvs.length < sizeLine/\Nx (upd H5 D (.dK (putK kvs k z))) else Nx H3) w (fun i H2=>SB [D] H H2/\∃ kvs,H2 D=some (.dK kvs)/\R i kvs H2/\kvs.length<=i)
  ⟨SB.new hD _,[],upd_same,st _ _ _ _ (SB.new hD _) h0,Nat.le_refl _⟩ (fun i H2 _ h=>hG H2 (h.1.drop hD)) (fun i x H2 H' hi h y=>?_) (fun H2 h=>?_)
 ·obtain ⟨s2,kvs,hD2,hR,hl⟩:=h
  refine turn _ i x H2 H' kvs hi (s2.drop hD) y hR hl (fun k z H5 s5 r5=>?_) (fun H4 s4 r4=>⟨s2.trans s4.nil,kvs,s4.keep _ _ hD2 nmn,r4,by omega⟩)
  have hD5:=s5.keep _ _ hD2 nmn
  refine ⟨kvs,k,rfl,hD5,by omega,(s2.trans s5.nil).trans (SB.setD hD5 (by simp) _),_,upd_same,st _ _ _ _ (SB.setD hD5 (by simp) _) r5,?_⟩
  have:=length_putK kvs k z
  omega
 ·obtain ⟨s2,kvs,hD2,hR,hl⟩:=h
  exact done kvs H2 (s2.drop hD) hD2 hR hl
end
theorem z1i {kvs:List (Key × V)} {k:Key} {v:V} (h:∀ p ∈ kvs,p.1 ≠ k):putK kvs k v=kvs++[(k,v)]:=by
 unfold putK
 rw [if_neg]
 intro z
 obtain ⟨p,hp,e⟩:=List.any_eq_true.mp z
 exact h p hp (of_decide_eq_true e)
theorem Bk.nodup_at {b:Bk} (nd:b.names.Nodup) {i:Nat} {k:Kd} (h:b[i]?=some k):∀ j ∈ b.take i,j.n ≠ k.n:=by
 intro j hj e
 have e1:b.names=(b.take i).map (·.n)++(b.drop i).map (·.n):=by rw [<- List.map_append,List.take_append_drop]
 rw [e1] at nd
 exact (List.nodup_append.mp nd).2.2 j.n (List.mem_map.mpr ⟨j,hj,rfl⟩) k.n (List.mem_map.mpr ⟨k,List.mem_of_getElem? (i:=0) (by rw [List.getElem?_drop]; exact h),rfl⟩) e
theorem SB.setG {H:Hp} {p:Addr} {o:HO} {ps:List Addr} (h:H p=some o) (hp:p ∈ ps) (n1:∀ xs,o ≠ .tup xs) (n2:∀ u v,o ≠ .frz u v) (o':HO):SB ps H (upd H p o'):=by
 refine ⟨fun b u e n=>?_,fun b u e=>?_,fun b v u e=>?_,fun b e=>?_⟩
 ·rw [upd_ne (fun (z:b=p)=>n (by rw [z]; exact hp))]; exact e
 ·rw [upd_ne (fun (z:b=p)=>by subst z; rw [h] at e; exact n1 _ (Option.some.inj e))]; exact e
 ·rw [upd_ne (fun (z:b=p)=>by subst z; rw [h] at e; exact n2 _ _ (Option.some.inj e))]; exact e
 ·by_cases q:b=p
  ·subst q; rw [upd_same] at e; cases e
  ·rw [upd_ne q] at e; exact e
theorem z7w:∀ {b:Bk} {us:List V} {p:Key × V},p ∈ b.rowKV us->∃ j ∈ b,p.1=Sum.inr j.n
 | [],_,p,h=>by cases h
 | k::b,[],p,h=>by cases h
 | k::b,u::us,p,h=>by
  rcases List.mem_cons.mp (show p ∈ (Sum.inr k.n,u)::Bk.rowKV b us from h) with h | h
  ·exact ⟨k,mcs ..,by rw [h]⟩
  ·obtain ⟨j,hj,e⟩:=z7w h
   exact ⟨j,mcm _ hj,e⟩
def PuW (H:Hp) (p:Addr):Prop:=∃ x y:Int,H p=some (.lst [.int x,.int y])/\0<=x/\0<=y/\y < 2 ^ 62
theorem PuW.sb {H H':Hp} {p:Addr} (h:PuW H p) (e:SB [] H H'):PuW H' p:=by
 obtain ⟨x,y,h1,h2⟩:=h
 exact ⟨x,y,e.keep _ _ h1 nmn,h2⟩
theorem PuW.keep {H H':Hp} {p:Addr} {ps:List Addr} (h:PuW H p) (e:SB ps H H') (n:p ∉ ps):PuW H' p:=by
 obtain ⟨x,y,h1,h2⟩:=h
 exact ⟨x,y,e.keep _ _ h1 n,h2⟩
theorem PuW.ne {H:Hp} {p q:Addr} (h:PuW H p) (n:H q=none):p ≠ q:=by
 obtain ⟨x,y,h1,h2⟩:=h
 exact ne_of_none h1 n
section
variable {J:It} {n:Nat} {G:Hp->Prop} {Y:Nat->Hp->V->Hp->Prop}
theorem zft (w:Walk J n G Y) (ps:List Addr) {g:TG} {tt:TT} {te:TE} {vs:List Nat} {σ:L2.St} {H:Hp} {D:Addr} {Qd:Hp->Prop} (hD:H D=none) (hps:∀ q ∈ ps,H q ≠ none) (hn:n < sizeLine) (R:Nat->List V->Hp->Prop) (h0:R 0 [] H) (hG:∀ H2,SB ps H H2->G H2)
  (st:∀ i us H2 H3,SB [D] H2 H3->R i us H2->R i us H3)
  (turn:∀ (Pv:Hp->Prop) i x H2 H' us,i < n->SB ps H H2->Y i H2 x H'->R i us H2->us.length<=i->(∀ y H5,SB ps H2 H5->R (i+1) (us++[y]) H5->∃ acc,H5 D=some (.lst acc)/\acc.length < sizeLine/\Pv (upd H5 D (.lst (acc++[y])))) ->
   (∀ H4,SB ps H2 H4->R (i+1) us H4->Pv H4)->g x (wipe σ vs) H' fun σ2 H3=>wipe σ2 vs=wipe σ vs/\tt σ2 H3 fun b H4 =>
    if b=true then te σ2 H4 fun y H5=>∃ acc,H5 D=some (.lst acc)/\acc.length < sizeLine/\Pv (upd H5 D (.lst (acc++[y]))) else Pv H4)
  (done:∀ us H2,SB ps H H2->H2 D=some (.lst us)->R n us H2->us.length<=n->Qd H2) :
  ∃ W:Nat->Nat->Hp->Prop,(∃ m,W 0 m (upd H D (.lst [])))/\∀ i m H,W i m H ->
   (J.stop i H/\Qd H)\/(J.go i H/\∃ Nx:Hp->Prop,(∀ H',Nx H'->∃ m',m' < m/\W (i+1) m' H')/\∀ x H',J.yld i H x H'->g x (wipe σ vs) H' fun σ2 H2=>wipe σ2 vs=wipe σ vs/\tt σ2 H2 fun b H3 =>
    if b=true then te σ2 H3 fun y H4=>∃ acc,H4 D=some (.lst acc)/\acc.length < sizeLine/\Nx (upd H4 D (.lst (acc++[y]))) else Nx H3):=by
 have nD:D ∉ ps:=fun z=>hps D z hD
 have up:∀ {H1 H2:Hp},SB ps H1 H2->SB (D::ps) H1 H2:=fun e=>e.mono fun b hb=>mcm _ hb
 have up1:∀ {H1 H2:Hp},SB [D] H1 H2->SB (D::ps) H1 H2:=fun e=>e.mono fun b hb=>by rw [List.mem_singleton.mp hb]; exact mcs ..
 refine lc_it w (fun i H2=>SB (D::ps) H H2/\∃ us,H2 D=some (.lst us)/\R i us H2/\us.length<=i) ⟨SB.new hD _,[],upd_same,st _ _ _ _ (SB.new hD _) h0,Nat.le_refl _⟩ (fun i H2 _ h=>hG H2 (h.1.drop hD)) (fun i x H2 H' hi h y=>?_) (fun H2 h=>?_)
 ·obtain ⟨s2,us,hD2,hR,hl⟩:=h
  refine turn _ i x H2 H' us hi (s2.drop hD) y hR hl (fun y H5 s5 r5=>?_) (fun H4 s4 r4=>⟨s2.trans (up s4),us,s4.keep _ _ hD2 nD,r4,by omega⟩)
  have hD5:=s5.keep _ _ hD2 nD
  refine ⟨us,hD5,by omega,(s2.trans (up s5)).trans (SB.set hD5 (by simp) _),_,upd_same,st _ _ _ _ (SB.set hD5 (by simp) _) r5,?_⟩
  rw [List.length_append,List.length_singleton]; omega
 ·obtain ⟨s2,us,hD2,hR,hl⟩:=h
  exact done us H2 (s2.drop hD) hD2 hR hl
end
abbrev zh5 (K:PySem.W.Frag):V->List V->Hp->VK->Prop:=fun x xs H Q=>∃ a p,∃ ys:List Str,x=.str a/\xs=[.ref p]/\(SqL K H p (ys.map V.str)\/SqT K H p (ys.map V.str))/\(ys.map (·.length)).sum+ys.length*a.length<=16777216/\Q (.str (Txt.join a ys)) H
theorem PuW.some {H:Hp} {p:Addr} (h:PuW H p):∀ q ∈ [p],H q ≠ none:=fun q hq z=>by
 obtain ⟨x,y,h1,_⟩:=h
 rw [List.mem_singleton.mp hq,h1] at z
 cases z
theorem zco:∀ r:Nat,r < 26->abc.cps.toList[r]?=some (97+r):=by
 have:∀ r:Fin 26,abc.cps.toList[r.val]?=some (97+r.val):=by decide +kernel
 intro r hr
 exact this ⟨r,hr⟩
theorem Ltr.mid {a b:Str} {n c:Nat} (ha:Ltr a n):(a++⟨#[c]⟩++b).cps.toList[n]?=some c:=by
 have e:(a++⟨#[c]⟩++b).cps.toList=a.cps.toList++(c::b.cps.toList):=by show (a.cps++#[c]++b.cps).toList=_; simp
 rw [e,List.getElem?_append_right (by rw [ha.1]; exact Nat.le_refl _),ha.1,Nat.sub_self]
 rfl
theorem nodup_range {α:Type} {F:Nat->α} {m:Nat} (h:∀ i j,i < m->j < m->i ≠ j->F i ≠ F j):((List.range m).map F).Nodup:=by
 refine List.pairwise_map.mpr (List.Pairwise.imp_of_mem (fun {i j} hi hj hn=>h i j (List.mem_range.mp hi) (List.mem_range.mp hj) hn) List.nodup_range)
section
variable {D:Ends} {σ:L2.St} {H:Hp} {t u:TS} {te:TE} {g:TG} {c:TT}
theorem zje {f:L2.St->Hp->Prop} {r:VK} {b c':L2.St->Hp->Prop} (h:f σ H):tNext ⟨f,r,b,c'⟩ σ H:=h
theorem seqI (h:t { D with nx:=u D } σ H):tSeq t u D σ H:=h
theorem asgI (h:te σ H fun x H1=>g x σ H1 D.nx):tAsg te g D σ H:=h
theorem ifI (h:c σ H fun b H1=>if b=true then t D σ H1 else u D σ H1):tIfS c t u D σ H:=h
end
theorem tot_filter (c:Tr × Int->Bool):∀ bs:List (Tr × Int),Gr.tot (bs.filter c)<=Gr.tot bs
 | []=>Nat.le_refl _
 | p::r=>by
  have:=tot_filter c r
  rw [List.filter_cons]
  split
  ·simp only [Gr.tot]; omega
  ·simp only [Gr.tot]; omega
theorem z4n {zs:List Str} (h:∀ z ∈ zs,z01 z):SeqAt.shaped (.list (zs.map .str))=true:=by
 have h1:PyData.canLayAll0 (zs.map .str)=true:=by
  induction zs with
  | nil=>simp [PyData.canLayAll0]
  | cons z r ih =>
   rw [List.map_cons,PyData.canLayAll0,ih fun y hy=>h y (mcm _ hy)]
   simp [PyData.canLay0,Gr.strOk_name (h z (mcs ..))]
 have h2:PyData.depthAll (zs.map .str)=0:=by
  clear h1 h
  induction zs with
  | nil=>simp [PyData.depthAll]
  | cons z r ih=>rw [List.map_cons,PyData.depthAll,ih]; simp [PyData.depth]
 unfold SeqAt.shaped
 rw [PyData.canLay0,h1,Bool.true_and]
 exact decide_eq_true (by simp only [PyData.depth,h2]; omega)
theorem z80 {α β:Type} (f:α->β):∀ (l:List α) (i:Nat),(l.map f).eraseIdx i=(l.eraseIdx i).map f
 | [],_=>rfl
 | _::_,0=>rfl
 | x::r,i+1=>by rw [List.map_cons,List.eraseIdx_cons_succ,List.eraseIdx_cons_succ,List.map_cons,z80 f r i]
theorem z6m {α:Type}:∀ {l:List α} {u:Nat} {x:α},l[u]?=some x->(x::l.eraseIdx u).Perm l
 | [],_,_,h=>by simp at h
 | y::r,0,x,h=>by
  have h:y=x:=by simpa using h
  subst h; exact List.Perm.refl _
 | y::r,u+1,x,h=>by
  have h:r[u]?=some x:=by simpa using h
  rw [List.eraseIdx_cons_succ]
  exact (List.Perm.swap y x _).trans (List.Perm.cons y (z6m h))
section
variable {J:It} {n:Nat} {G:Hp->Prop} {Y:Nat->Hp->V->Hp->Prop}
theorem zgh (w:Walk J n G Y) (ps:List Addr) {g:TG} {tt:TT} {te:TE} {vs:List Nat} {σ:L2.St} {H:Hp} {D:Addr} {Qd:Hp->Prop} (hD:H D=none) (hps:∀ q ∈ ps,H q ≠ none) (hn:n < sizeLine) (R:Nat->List V->Hp->Prop) (h0:R 0 [] H) (hG:∀ H2,SB ps H H2->G H2)
  (st:∀ i us H2 H3,SB [D] H2 H3->R i us H2->R i us H3)
  (turn:∀ (Pv:Hp->Prop) i x H2 H' us,i < n->SB ps H H2->Y i H2 x H'->R i us H2->us.length<=i->H2 D=some (.lst us)->(∀ y H5,SB ps H2 H5->R (i+1) (us++[y]) H5->∃ acc,H5 D=some (.lst acc)/\acc.length < sizeLine/\Pv (upd H5 D (.lst (acc++[y])))) ->
   (∀ H4,SB ps H2 H4->R (i+1) us H4->Pv H4)->g x (wipe σ vs) H' fun σ2 H3=>wipe σ2 vs=wipe σ vs/\tt σ2 H3 fun b H4 =>
    if b=true then te σ2 H4 fun y H5=>∃ acc,H5 D=some (.lst acc)/\acc.length < sizeLine/\Pv (upd H5 D (.lst (acc++[y]))) else Pv H4)
  (done:∀ us H2,SB ps H H2->H2 D=some (.lst us)->R n us H2->us.length<=n->Qd H2) :
  ∃ W:Nat->Nat->Hp->Prop,(∃ m,W 0 m (upd H D (.lst [])))/\∀ i m H,W i m H ->
   (J.stop i H/\Qd H)\/(J.go i H/\∃ Nx:Hp->Prop,(∀ H',Nx H'->∃ m',m' < m/\W (i+1) m' H')/\∀ x H',J.yld i H x H'->g x (wipe σ vs) H' fun σ2 H2=>wipe σ2 vs=wipe σ vs/\tt σ2 H2 fun b H3 =>
    if b=true then te σ2 H3 fun y H4=>∃ acc,H4 D=some (.lst acc)/\acc.length < sizeLine/\Nx (upd H4 D (.lst (acc++[y]))) else Nx H3):=by
 have nD:D ∉ ps:=fun z=>hps D z hD
 have up:∀ {H1 H2:Hp},SB ps H1 H2->SB (D::ps) H1 H2:=fun e=>e.mono fun b hb=>mcm _ hb
 have up1:∀ {H1 H2:Hp},SB [D] H1 H2->SB (D::ps) H1 H2:=fun e=>e.mono fun b hb=>by rw [List.mem_singleton.mp hb]; exact mcs ..
 refine lc_it w (fun i H2=>SB (D::ps) H H2/\∃ us,H2 D=some (.lst us)/\R i us H2/\us.length<=i) ⟨SB.new hD _,[],upd_same,st _ _ _ _ (SB.new hD _) h0,Nat.le_refl _⟩ (fun i H2 _ h=>hG H2 (h.1.drop hD)) (fun i x H2 H' hi h y=>?_) (fun H2 h=>?_)
 ·obtain ⟨s2,us,hD2,hR,hl⟩:=h
  refine turn _ i x H2 H' us hi (s2.drop hD) y hR hl hD2 (fun y H5 s5 r5=>?_) (fun H4 s4 r4=>⟨s2.trans (up s4),us,s4.keep _ _ hD2 nD,r4,by omega⟩)
  have hD5:=s5.keep _ _ hD2 nD
  refine ⟨us,hD5,by omega,(s2.trans (up s5)).trans (SB.set hD5 (by simp) _),_,upd_same,st _ _ _ _ (SB.set hD5 (by simp) _) r5,?_⟩
  rw [List.length_append,List.length_singleton]; omega
 ·obtain ⟨s2,us,hD2,hR,hl⟩:=h
  exact done us H2 (s2.drop hD) hD2 hR hl
end
def Kd.dat (k:Kd):PyData:=.tuple [.str k.n,.bool k.w,.list (k.rs.map Ru.enc)]
section
variable {K:PySem.W.Frag} {H H':Hp}
theorem z6q {α:Type} {enc:α->PyData}:∀ {vs:List V} {xs:List α},Bears K H enc vs xs->DpAll K H vs (xs.map enc)
 | _,_,.nil=>.nil
 | _,_,.cons h t=>.cons h (z6q t)
theorem KdAll.dp {bad:List Addr}:∀ {vs:List V} {b:Bk},KdAll K H bad vs b->DpAll K H vs (b.map Kd.dat)
 | _,_,.nil=>.nil
 | _,_,.cons ⟨t,l,zs,e,h1,h2,h3,_⟩ r=>by
  subst e
  exact .cons (.tup h1 (.cons (.str _) (.cons (.bl _) (.cons (.lst (SqL.of h2) (z6q h3)) .nil)))) (KdAll.dp r)
theorem KdAll.bad {bad:List Addr} (hb:∀ p ∈ bad,H p=none):∀ {vs:List V} {b:Bk},KdAll K H [] vs b->KdAll K H bad vs b
 | _,_,.nil=>.nil
 | _,_,.cons ⟨t,l,zs,e,h1,h2,h3,_⟩ r=>.cons ⟨t,l,zs,e,h1,h2,h3,fun z=>by rw [hb l z] at h2; cases h2⟩ (KdAll.bad hb r)
end
theorem z9h {C:Int} {g:Gr} (h:g.Ok C):plS g.enc=true:=by show plS (.tuple g.encs)=true; rw [plS]; exact Gr.plSs_encs h
theorem zh6 {r:Ru} (h:RuOk r):plS (Ru.enc r)=true:=by
 show plS (.tuple [r.1.enc,r.2.enc])=true
 rw [plS,plSs,plSs,plSs,z9h h.1,z9h h.2.1]; rfl
theorem z9n:∀ {ds:List PyData},(∀ d ∈ ds,plS d=true)->plSs ds=true
 | [],_=>rfl
 | d::ds,h=>by rw [plSs,h d (mcs ..),z9n fun x hx=>h x (mcm _ hx)]; rfl
theorem zct {rs:List Ru} (h:∀ r ∈ rs,RuOk r):plSs (rs.map Ru.enc)=true:=z9n fun d hd=>by
 obtain ⟨r,hr,rfl⟩:=List.mem_map.mp hd
 exact zh6 (h r hr)
theorem z2o {n:Nat}:∀ {ds:List PyData},(∀ d ∈ ds,d.depth<=n)->PyData.depthAll ds<=n
 | [],_=>by simp [PyData.depthAll]
 | d::ds,h=>by
  have h1:=h d (mcs ..)
  have h2:=z2o fun x hx=>h x (mcm _ hx)
  rw [PyData.depthAll]; omega
theorem zdb {r:Ru} (h:RuOk r):(Ru.enc r).depth<=20:=by
 obtain ⟨h1,h2,h3⟩:=h
 have d1:=z07 r.1
 have d2:=z07 r.2
 have e1:=r.1.encs_depth
 have e2:=r.2.encs_depth
 show PyData.depth (.tuple [.tuple r.1.encs,.tuple r.2.encs])<=20
 simp only [PyData.depth,PyData.depthAll]; omega
theorem z7n:∀ {b:Bk},(∀ k ∈ b,z01 k.n/\∀ r ∈ k.rs,RuOk r)->PyData.canLayAll0 (b.map Kd.dat)=true
 | [],_=>by simp [PyData.canLayAll0]
 | k::b,h=>by
  obtain ⟨h0,h1⟩:=h k (mcs ..)
  have h1:=z25 _ (zct h1)
  have h2:=z7n fun x hx=>h x (mcm _ hx)
  rw [List.map_cons,PyData.canLayAll0,h2]
  simp [Kd.dat,PyData.canLay0,PyData.canLayAll0,h1,Gr.strOk_name h0]
theorem z99 {b:Bk} (h:∀ k ∈ b,z01 k.n/\∀ r ∈ k.rs,RuOk r):SeqAt.shaped (.list (b.map Kd.dat))=true:=by
 unfold SeqAt.shaped
 rw [PyData.canLay0,z7n h,Bool.true_and]
 have:PyData.depthAll (b.map Kd.dat)<=22:=z2o fun d hd=>by
  obtain ⟨k,hk,rfl⟩:=List.mem_map.mp hd
  have:PyData.depthAll (k.rs.map Ru.enc)<=20:=z2o fun d hd=>by
   obtain ⟨r,hr,rfl⟩:=List.mem_map.mp hd
   exact zdb ((h k hk).2 r hr)
  show PyData.depth (.tuple [.str k.n,.bool k.w,.list (k.rs.map Ru.enc)])<=22
  simp only [PyData.depth,PyData.depthAll]; omega
 exact decide_eq_true (by simp only [PyData.depth]; omega)
open TL (tl)
def Ru.text (r:Ru):List Nat:=[32,62,32]++(r.1.text++([32,47,32]++r.2.text))
def Kd.mark (k:Kd):List Nat:=if k.w=true then [32,42] else []
def Kd.text (k:Kd):List Nat:=tl k.n++(k.mark++(k.rs.map Ru.text).flatten)
def Bk.text (b:Bk):List Nat:=TL.joinL [59,32] (b.map Kd.text)
/-- a step,the rest behind it known by what it needs -/
theorem z5s {t rest:TS} {D:Ends} {σ:L2.St} {H:Hp} (R:L2.St->Hp->Prop) (h:∀ nx:L2.St->Hp->Prop,(∀ σ' H',R σ' H'->nx σ' H')->t { D with nx:=nx } σ H) (k:∀ σ' H',R σ' H'->rest D σ' H'):tSeq t rest D σ H:=h (rest D) k
theorem z0d {i:Nat} {v:V} {σ:L2.St} {H:Hp} {f:L2.St->Hp->Prop} {r:VK} {b c:L2.St->Hp->Prop} (h:f (σ.set i (some v)) H):gName i v σ H (Ends.mk f r b c).nx:=h
theorem RuOk.swap {r:Ru} (h:RuOk r):RuOk r.swap:=⟨h.2.1,h.1,by have:=h.2.2; show r.2.parts+r.1.parts<=4; omega⟩
abbrev z9z (K:PySem.W.Frag):List V->Hp->VK->Prop:=fun xs H Q=>∃ p ys,xs=[.ref p]/\(SqL K H p ys\/SqT K H p ys)/\∀ l,H l=none->Q (.ref l) (upd H l (.lst ys))
theorem Bk.Ok.two {b:Bk} (ok:b.Ok):∀ k ∈ b,k.rs.length<=4/\∀ r ∈ k.rs,RuOk r:=fun k hk=>⟨(ok.kd k hk).2.1,fun r hr=>((ok.kd k hk).2.2 r hr).1⟩
theorem Bk.Ok.three {b:Bk} (ok:b.Ok):∀ k ∈ b,z01 k.n/\∀ r ∈ k.rs,RuOk r:=fun k hk=>⟨(ok.kd k hk).1,(ok.two k hk).2⟩
theorem zbl {K:PySem.W.Frag} {C B:Addr} {b:Bk} {H:Hp} {l:Addr} {xs:List V} {bad:List Addr} {Q:VK} {E:XK} (hl:H l=some (.lst xs)) (ha:KdAll K H bad xs b) (ok:b.Ok) (k:∀ y H',SB [] H H'->H y=none->BkA K C H' (.ref y) b->Q (.ref y) H') :
  ∀ y dx,H y=none->H dx=none->dx ≠ y->z2z K C B (.ref y::[.ref l]) (upd (upd H dx (.own y)) y (.ins C dx [])) (fun v H2=>v=.non/\Q (.ref y) H2) E:=by
 intro y dx hy hdx hne
 have b8:=ok.len
 have hy':upd H dx (.own y) y=none:=by rw [upd_ne (fun z=>hne z.symm)]; exact hy
 have t4:=(SB.new (ps:=[]) hdx (.own y)).trans (SB.new hy' (.ins C dx []))
 have hdx4:upd (upd H dx (.own y)) y (.ins C dx []) dx=some (.own y):=by rw [upd_ne hne,upd_same]
 have hx4:upd (upd H dx (.own y)) y (.ins C dx []) y=some (.ins C dx []):=upd_same
 refine ⟨y,dx,l,xs,b.map Kd.kt,rfl,hx4,hdx4,t4.keep _ _ hl nmn,(ha.sb t4 NoLst.nil).kt ok.three,fun t ht=>?_,by rw [List.length_map]; omega,fun b' e ok' H5 s5 hbk=>?_,fun z=>absurd ⟨b,rfl,ok⟩ z⟩
 ·obtain ⟨k,hk,rfl⟩:=List.mem_map.mp ht
  exact zd8 (ok.two k hk)
 ·have e:=z7b e
  subst e
  exact ⟨rfl,k y H5 (((t4.nil (ps:=[y])).trans s5).drop hy) hy hbk⟩
open TL (tl)
def Ru.tail (r:Ru):List Nat:=r.1.text++([32,47,32]++r.2.text)
def Kd.head (k:Kd):List Nat:=tl k.n++k.mark
theorem zg4 {x y:Str} (h:tl x=tl y):x=y:=by
 have hc:x.cps=y.cps:=Array.toList_inj.mp h
 cases x; cases y; cases hc; rfl
theorem Shows.inj {z:Str} {g k:Gr} (h:Shows z g) (h':Shows z k):k=g:=by
 by_cases e:g=.nil
 ·subst e
  exact z7l h'.ok (by rw [<- h'.tx,h.tx]; rfl)
 ·by_cases e':k=.nil
  ·subst e'
   exact absurd (z7l h.ok (by rw [<- h.tx,h'.tx]; rfl)) e
  ·have a:=h.read e
   have b:=h'.read e'
   rw [a] at b
   injection b with b
   injection b with b _
   rw [<- Gr.ofPs_ps k,<- Gr.ofPs_ps g,b]
structure InsC (K:PySem.W.Frag) (mg:Str->Option Value) (n:Str) (C:Addr):Prop where
 c:Cls K C
 ha:PySem.W.findIn K (.ref C) "__class__"=some (some (.builtin "object.__class__"))
 hn:PySem.W.specialIn K (.builtin "object.__class__") "__get__"=some (some (.builtin "getset_descriptor.__get__"))
 htk:PySem.W.takesIn K (.builtin "object.__class__")=some true
 hm:PySem.W.mroIn K C (.type "object")=some true
 g:mg n=some (.ref C)
theorem InsC.ty {K:PySem.W.Frag} {mg:Str->Option Value} {n:Str} {C a dx:Addr} {H:Hp} {fs:List (Str × V)} (i:InsC K mg n C) (h:H a=some (.ins C dx fs)):TyX K H (.ref a) (.ref C):=.base (.ins h i.c i.ha i.hn i.htk i.hm)
open PySem.Froz (SD sObj TxOk addTx tailTx)
/-- the payload D holds the texts l,each once,and its table rises -/
structure TxS (P:Program) (w:World) (D:SD) (l:List Str):Prop where
 ok:TxOk P w D l
 nd:l.Nodup
 ris:Ris D.2.2.place.toList
 led:w.params.followText "set-order"=true\/D.2.2.led=true
/-- the texts,one more -/
def insS (k:Str) (l:List Str):List Str:=if k ∈ l then l else k::l
section
variable {P:Program} {w:World} {A:Around} {E:Value->Shared->Prop} {s:Shared} {D:SD} {l:List Str} {k:Str} {u:Tok} {a:Addr} {T:String}
theorem zbv {es:Array (Int × Value)} {ep:Nat} {t:SetTable} {b:Bool} (r:Ris t.place.toList) (d:w.params.followText "set-order"=true\/t.led=true) :
  Ris (tailTx ep es t b).2.2.place.toList/\(w.params.followText "set-order"=true\/(tailTx ep es t b).2.2.led=true):=by
 unfold tailTx
 split
 ·exact ⟨relayAll_ris ..,d.imp id fun z=>by rw [relayAll_led]; exact z⟩
 ·exact ⟨r,d⟩
theorem TxS.add (F:TxS P w D l) (hk:k ∉ l):TxS P w (addTx (hashStr w k) (.str k u) D) (k::l):=by
 obtain ⟨es,ep,t⟩:=D
 have r1:=layNew_ris t es (hashStr w k) (.str k u) F.ris
 have d1:=F.led.imp id fun z=>(layNew_led t es (hashStr w k) (.str k u)).trans z
 have key:∀ t':SetTable,t'.place=(layNew t es (hashStr w k) (.str k u)).2.1.place->t'.led=(layNew t es (hashStr w k) (.str k u)).2.1.led->∀ es' b,Ris (tailTx ep es' t' b).2.2.place.toList/\(w.params.followText "set-order"=true\/(tailTx ep es' t' b).2.2.led=true) :=
  fun t' e1 e2 es' b=>zbv (by rw [e1]; exact r1) (by rw [e2]; exact d1)
 have z:=key (if (layNew t es (hashStr w k) (.str k u)).2.1.plain=true then { (layNew t es (hashStr w k) (.str k u)).2.1 with plain:=false } else (layNew t es (hashStr w k) (.str k u)).2.1) (by split <;> rfl) (by split <;> rfl) (layNew t es (hashStr w k) (.str k u)).1 (layNew t es (hashStr w k) (.str k u)).2.2.1
 exact ⟨PySem.Froz.add_ok u F.ok,List.nodup_cons.mpr ⟨hk,F.nd⟩,z.1,z.2⟩
/-- a text that is there -/
theorem zb3 {Q:Bool->Shared->Prop} (ho:s.heap.get? a=some (sObj T D)) (F:TxOk P w D l) (hk:k ∈ l) (hb:l.length < scanBound) (h:Q false s):wpAny (model P w) A (setAddHashed a (.str k u) (hashStr w k)) Q E s:=by
 obtain ⟨es,ep,t⟩:=D
 have hd:(sObj T (es,ep,t)).data=.set es ep t:=rfl
 have hel:ElemsOf (strKind P w) es.toList:=F.el
 have hsz:es.size=l.length:=F.sz
 have is0:(strKind P w).is k (.str k u)=true:=PySem.Froz.is_str k u
 obtain ⟨j,hj⟩:∃ j,List.findIdx? (fun e=>(strKind P w).is k e.2) es.toList=some j:=by
  cases e:List.findIdx? (fun e=>(strKind P w).is k e.2) es.toList with
  | some j=>exact ⟨j,rfl⟩
  | none =>
   obtain ⟨x,hx,hi⟩:=(F.mem k).mp hk
   have:=List.findIdx?_eq_none_iff.mp e x hx
   rw [hi] at this
   cases this
 unfold setAddHashed setAddHashedIn
 refine wpAny_holding (wpAny_bind (wpAny_setState_of ho hd F.fit ?_))
 dsimp only
 rw [byScan_of rfl (by rw [hsz]; exact hb) hel]
 simp only [↓reduceIte]
 unfold setAddByScan
 refine wpAny_bind (wpAny_bind (wpAny_rule (wpAny_bind (wpAny_setScan_of (knd:=strKind P w) (k:=k) is0 ho hd F.fit hel ?_))))
 rw [hj]
 exact wpAny_pure (wpAny_pure h)
theorem zg5 {Q:Bool->Shared->Prop} (ho:s.heap.get? a=some (sObj T D)) (F:TxS P w D l) (hb:l.length+1 < scanBound)
  (h:∀ (b:Bool) (h':Heap) (D':SD),Heap.SameBut a s.heap h'->h'.get? a=some (sObj T D')->TxS P w D' (insS k l)->Q b { s with heap:=h' }):wpAny (model P w) A (setAddHashed a (.str k u) (hashStr w k)) Q E s:=by
 by_cases hk:k ∈ l
 ·refine zb3 ho F.ok hk (by omega) (h false s.heap D (Heap.SameBut.refl a s.heap) ho ?_)
  unfold insS
  rw [if_pos hk]
  exact F
 ·refine PySem.Froz.add_x ho F.ok hk hb (h true _ _ (Heap.SameBut.update ..) (PySem.Froz.get_upd _ ho rfl) ?_)
  unfold insS
  rw [if_neg hk]
  exact F.add hk
end
section
variable {P:Program} {w:World} {A:Around} {E:Value->Shared->Prop} {s:Shared} {D:SD} {l:List Str} {k:Str} {u:Tok} {a:Addr}
theorem zc4 {Q:Value->Shared->Prop} (ho:s.heap.get? a=some (sObj "set" D)) (F:TxS P w D l) (hb:l.length+1 < scanBound)
  (h:∀ (h':Heap) (D':SD),Heap.SameBut a s.heap h'->h'.get? a=some (sObj "set" D')->TxS P w D' (insS k l)->Q .none { s with heap:=h',toks:=s.toks+1 }):wpAny (model P w) A (call (.builtin "set.add") [.ref a,.str k u]) Q E s:=by
 refine wpAny_call_entry PySem.F.slot_set_add ⟨_,ho,rfl⟩ PySem.F.entry_set_add ?_ (PySem.F.args_set_add_2 _ _)
 unfold Builtin.«set.add» Builtin.Frozenset.oneOther
 simp only [List.isEmpty_nil,bind_assoc]
 unfold Builtin.Frozenset.addrOf setAdd
 refine wpAny_bind (wpAny_pure ?_)
 try dsimp only
 refine wpAny_bind (wpAny_pure ?_)
 try dsimp only
 refine wpAny_bind (wpAny_holding (wpAny_bind ((strKind P w).pyHash (k:=k) (PySem.Froz.is_str k u) ?_)))
 refine zg5 (s:={ s with toks:=s.toks+1 }) ho F hb fun b h' D' sb o' F'=>?_
 refine (?_:wpAny (model P w) _ (ret Value.none) _ E _)
 exact wpAny_pure ⟨_,rfl,h h' D' sb o' F'⟩
end
def SetSO (P:Program) (w:World) (a:Addr) (l:List Str):HO:=.ext fun h=>∃ D:SD,h.get? a=some (sObj "set" D)/\TxS P w D l
theorem z7p {P:Program} {w:World} {H:Hp} {h:Heap} {a:Addr} {l:List Str} {D:SD} (ho:h.get? a=some (sObj "set" D)) (F:TxS P w D l):ObjOk P w H h a (SetSO P w a l) :=
 ⟨⟨D,ho,F⟩,⟨_,ho⟩,fun h1 h2 ⟨D',q,F'⟩ k=>⟨D',k _ q,F'⟩⟩
section
variable {X:Cx} {pins:List (Addr × Obj)} {σ:L2.St} {H:Hp} {s:Shared} {l:List Str}
theorem z7v {a:Addr} (I:Inv X pins σ H s) (ha:H a=some (SetSO X.prog X.w a l)):∃ D:SD,s.heap.get? a=some (sObj "set" D)/\TxS X.prog X.w D l:=(I.hok a _ ha).1
theorem zg1 {E:Value->Shared->Prop} {a:Addr} {k:Str} {u:Tok} {Q:Value->Shared->Prop} (I:Inv X pins σ H s) (ha:H a=some (SetSO X.prog X.w a l)) (room:l.length+1 < scanBound)
  (h:∀ s',Inv X pins σ (upd H a (SetSO X.prog X.w a (insS k l))) s'->Q .none s'):wpAny (model X.prog X.w) X.A (call (.builtin "set.add") [.ref a,.str k u]) Q E s:=by
 obtain ⟨D,ho,F⟩:=z7v I ha
 refine zc4 ho F room fun h' D' sb o' F'=>?_
 exact h _ (I.write (e:=a) (t':=s.toks+1) (by rw [ha]; trivial) (.inl rfl) (fun b o hb hu=>(sb.2 b hb).trans hu) ⟨_,o'⟩ (z7p o' F'))
end
theorem zbx (P:Program) (w:World):TxS P w (#[],0,.fresh 0 0 (!w.params.followText "set-order")) []:=by
 refine ⟨PySem.Froz.TxOk.nil rfl,List.nodup_nil,List.Pairwise.nil,?_⟩
 show _\/(!w.params.followText "set-order")=true
 cases w.params.followText "set-order"
 ·exact .inr rfl
 ·exact .inl rfl
theorem z92 {P:Program} {w:World} {k:Str} {v:Value} (h:(strKind P w).is k v=true):∃ tk,v=Value.str k tk:=by
 have h:Value.isStrOf k v=true:=h
 cases v <;> simp [Value.isStrOf] at h
 exact ⟨_,by rw [h]⟩
theorem z9l:∀ (l:List Value),(∀ v ∈ l,∃ k tk,v=Value.str k tk)->∃ ss:List Str,StrsAre l ss/\∀ k,k ∈ ss ↔ ∃ v ∈ l,∃ tk,v=Value.str k tk
 | [],_=>⟨[],.nil,fun k=>by simp⟩
 | v::r,h=>by
  obtain ⟨k,tk,rfl⟩:=h v (mcs ..)
  obtain ⟨ss,h1,h2⟩:=z9l r fun x hx=>h x (mcm _ hx)
  refine ⟨k::ss,.cons k tk h1,fun j=>?_⟩
  rw [List.mem_cons,h2 j]
  refine ⟨fun z=>?_,fun ⟨x,hx,t',e⟩=>?_⟩
  ·rcases z with rfl | ⟨x,hx,e⟩
   ·exact ⟨_,mcs ..,tk,rfl⟩
   ·exact ⟨x,mcm _ hx,e⟩
  ·rcases List.mem_cons.mp hx with q | q
   ·rw [q] at e; cases e; exact .inl rfl
   ·exact .inr ⟨x,q,t',e⟩
/-- lists with the same members,one without doubles and no longer -/
theorem z9q {α:Type}:∀ {a b:List α},b.Nodup->a.length=b.length->(∀ k,k ∈ b->k ∈ a)->a.Perm b
 | a,[],_,hl,_=>by
  have:a=[]:=List.eq_nil_of_length_eq_zero hl
  rw [this]
 | a,x::b,nd,hl,hm=>by
  obtain ⟨p,q,e⟩:=List.append_of_mem (hm x (mcs ..))
  subst e
  obtain ⟨n1,n2⟩:=List.nodup_cons.mp nd
  have ih:=z9q (a:=p++q) (b:=b) n2 (by simp at hl ⊢; omega) fun k hk=>by
   have hx:k ≠ x:=fun z=>n1 (z ▸ hk)
   have:=hm k (mcm _ hk)
   simp only [List.mem_append,List.mem_cons] at this ⊢
   rcases this with z | z | z
   ·exact .inl z
   ·exact absurd z hx
   ·exact .inr z
  exact List.perm_middle.trans (ih.cons x)
section
variable {P:Program} {w:World} {A:Around} {E:Value->Shared->Prop} {s:Shared} {D:SD} {l:List Str} {a:Addr}
theorem zao {Q:Value->Shared->Prop} (hh:A.handled=none) (ho:s.heap.get? a=some (sObj "set" D)) (F:TxS P w D l) (h64:l.length < 64)
  (h:∀ (s':Shared) (p:Addr) (out:Array Value) (c:Nat) (ss:List Str),(∀ b o,s.heap.get? b=some o->s'.heap.get? b=some o)->s'.gens=s.gens->s'.os=s.os->s.heap.objs.size<=p->s'.heap.get? p=some (seqObj "list" out c)->StrsAre out.toList ss->ss.Perm l->sortedS ss=true->Q (.ref p) s') :
  wpAny (model P w) A (call (.builtin "sorted") [.ref a]) Q E s:=by
 obtain ⟨es,ep,t⟩:=D
 have hsz:es.size=l.length:=F.ok.sz
 have hsc:es.size < scanBound:=by rw [hsz]; unfold scanBound; omega
 refine Calls.call_function_entry kind_sorted plain_sorted entry_sorted (args_sorted1 _) ?_
 unfold Builtin.«sorted»
 refine wpAny_bind (m:=checkCount "sorted" 1 1 _) (wpAny_pure ?_)
 refine wpAny_bind (collect_set (A:=A.in1) hh ⟨_,ho,rfl,rfl⟩ F.ok.fit hsc F.ris F.led fun s1 vs k1 z1 g1 o1 pm=>?_)
 have vl:vs.length=l.length:=by rw [pm.length_eq,List.length_map,Array.length_toList,hsz]
 have shape:∀ v ∈ vs,∃ k tk,v=Value.str k tk:=fun v hv=>by
  obtain ⟨e,he,rfl⟩:=List.mem_map.mp (pm.mem_iff.mp hv)
  obtain ⟨⟨k,hk,_⟩,_⟩:=F.ok.el e he
  obtain ⟨tk,q⟩:=z92 hk
  exact ⟨k,tk,q⟩
 obtain ⟨ss,hS,hmem⟩:=z9l vs shape
 have hp:ss.Perm l:=by
  refine z9q F.nd (by rw [<- hS.length]; exact vl) fun k hk=>?_
  obtain ⟨e,he,hi⟩:=(F.ok.mem k).mp hk
  obtain ⟨tk,q⟩:=z92 hi
  exact (hmem k).mpr ⟨e.2,pm.mem_iff.mpr (List.mem_map_of_mem he),tk,q⟩
 refine wpAny_bind (wpAny_newList ?_ (by rw [vl,sizeLine_eq]; omega))
 have at1:(s1.heap.push (seqObj "list" vs.toArray 0)).get? s1.heap.objs.size=some (seqObj "list" vs.toArray 0):=Heap.get?_push_size _ rfl
 refine wpAny_bind (wpAny_holding (wpAny_call_entry slot_list_sort ⟨_,at1,rfl⟩ entry_list_sort (list_sort_treeK strKind_oneLt at1 hS.keysOf (fun v1 v2 r e=>keyKind_strs (by rw [<- e]; exact hS)) (by rw [vl]; exact h64) fun st' p1 p2=>⟨_,rfl,?_⟩) (args_list_sort _)))
 obtain ⟨ss',q1,q2,q3⟩:=sorted_out_str hS p1 p2
 obtain ⟨c,hc⟩:=sortedHeap_at (vs:=vs) (out:=(arrOf st').map (·.2)) at1
 refine wpAny_pure ⟨_,rfl,h _ s1.heap.objs.size _ c ss' (fun b o e=>?_) g1 o1 z1 hc q1 (q2.trans hp) q3⟩
 have e1:=k1 b o e
 have lt:=Heap.lt_size e1
 show (sortedHeap (s1.heap.push (seqObj "list" vs.toArray 0)) s1.heap.objs.size vs _).get? b=some o
 rw [sortedHeap_old (Nat.ne_of_lt lt) (by rw [size_push']; exact Nat.lt_succ_of_lt lt)]
 exact Heap.get?_push_of_some _ e1
end
section
variable {X:Cx}
def zbn (P:Program) (w:World):List V->Hp->VK->Prop:=fun vs H Q=>∃ (a:Addr) (l:List Str),vs=[.ref a]/\H a=some (SetSO P w a l)/\l.length < 64/\∀ (ss:List Str) (p:Addr),ss.Perm l->sortedS ss=true->H p=none->Q (.ref p) (upd H p (.lst (ss.map V.str)))
theorem z98 (hc:X.calm=true):CallR X (.builtin "sorted") (zbn X.prog X.w):=by
 intro pins s σ H vs us Q I r h
 obtain ⟨a,l,rfl,ha,h64,q⟩:=h
 obtain ⟨D,ho,F⟩:=z7v I ha
 rw [Vals.ref1 r]
 refine zao (I.ok.hd hc) ho F h64 fun s' p out c ss kp eg eo hp at' hS pm srt=>?_
 have hn:H p=none:=I.hok.fresh hp
 have hz:(ss.map V.str).length<=sizeLine:=by rw [List.length_map,pm.length_eq,sizeLine_eq]; omega
 obtain ⟨h',g',d',tk',os'⟩:=s'
 have eo:os'=s.os:=eo
 subst eo
 exact ⟨.ref p,upd H p (.lst (ss.map V.str)),I.call (ch:=[]) (Un.laid kp hp hn) (I.hok.laid kp hp ⟨hz,out.toList,c,vals_of_strs hS,at'⟩) (by rw [show g'=s.gens from eg]; exact I.bare) (fun _ z=>nomatch z),rfl,q ss p pm srt hn⟩
end
section
variable {X:Cx}
def tScS (P:Program) (w:World) (wi:TI) (g:TG) (tt:TT) (te:TE) (vs:List Nat):TE:=fun σ H Q=>wi σ H fun J H1=>∀ D,H1 D=none->∃ W:Nat->Nat->Hp->Prop,(∃ m,W 0 m (upd H1 D (SetSO P w D [])))/\∀ i m Hi,W i m Hi ->
 (J.stop i Hi/\Q (.ref D) Hi)\/(J.go i Hi/\∃ Nx:Hp->Prop,(∀ H',Nx H'->∃ m',m' < m/\W (i+1) m' H')/\∀ x H',J.yld i Hi x H'->g x (wipe σ vs) H' fun σ2 H2=>wipe σ2 vs=wipe σ vs/\tt σ2 H2 fun b H3 =>
  if b=true then te σ2 H3 fun y H4=>∃ (z:Str) (l:List Str),y=.str z/\H4 D=some (SetSO P w D l)/\l.length+1 < scanBound/\Nx (upd H4 D (SetSO P w D (insS z l))) else Nx H3)
theorem zil {elt tg iter:Expr} {ifs:List Expr} {scope:Scope} {own:List (PySem.Str × Nat)} {pos:Pos} {wi:TI} {g:TG} {tt:TT} {te:TE} (hc:X.calm=true) (hN:X.N.Nodup) (hi:PI X tg iter wi) (ok:BlkOk X.N X.env.scope scope own)
  (hg:∀ (s1:Shared) (H1:Hp) (C:Addr) (cl:List (PySem.Str × Addr)) (fp:List Addr),L2.PG (X.blk s1 H1 scope (compEnvC scope cl C X.env) fp) tg g) (ht:∀ (s1:Shared) (H1:Hp) (C:Addr) (cl:List (PySem.Str × Addr)) (fp:List Addr),L2.PTs (X.blk s1 H1 scope (compEnvC scope cl C X.env) fp) ifs tt)
  (he:∀ (s1:Shared) (H1:Hp) (C:Addr) (cl:List (PySem.Str × Addr)) (fp:List Addr),L2.PE (X.blk s1 H1 scope (compEnvC scope cl C X.env) fp) elt te) (hs:∀ x,foldedSetIterable iter X.env x=pure x:=by intro _; rfl) :
  PE X (.SetComp elt [⟨tg,iter,ifs,0⟩] scope pos) (tScS X.prog X.w wi g tt te (own.map (·.2))):=by
 refine ⟨fun pins s σ H Q I h=>?_⟩
 rw [PpSet.eval_SetComp]
 have clo:∀ y ∈ scope.names,y.2=.free->∃ c,X.env.cells.lookup y.1=some c:=fun y hy e=>(ok.free y hy e).elim (fun k=>I.ok.has _ (.inl k)) fun k=>I.ok.has _ (.inr k)
 refine wpAny_comprehension_free (use:=none) rfl hs (closure_ok clo) ok.kind (fun y hy e=>by rw [ok.uniq y hy,e]) (thn (hi.run pins s σ H _ I h) fun xv s1 hx=>thn hx fun itv s2 got=>?_)
 obtain ⟨it,fp,tn,J,Ha,e0,Ia,Tn,sta,fpa,walk⟩:=got
 subst e0
 refine PpSet.newSet_ok (newEnv_comp ?_)
 -- the new set,at the heap's end
 generalize eD:s2.heap.objs.size=D
 have freeD:Ha D=none:=Ia.hok.fresh (Nat.le_of_eq eD)
 obtain ⟨W,⟨m0,w0⟩,turn⟩:=walk D freeD
 generalize eb:({ s2 with heap:=s2.heap.push { cls:=.type "set",dict:=none,data:=.set #[] 0 (.fresh 0 0 (!X.w.params.followText "set-order")) } }:Shared)=sb
 have hpb:sb.heap=s2.heap.push { cls:=.type "set",dict:=none,data:=.set #[] 0 (.fresh 0 0 (!X.w.params.followText "set-order")) }:=by rw [<- eb]
 have Ib:Inv X pins σ (upd Ha D (SetSO X.prog X.w D [])) sb:=by
  rw [<- eb]
  refine Ia.laid (t':=s2.toks) (fun b o e=>Heap.get?_push_of_some _ e) (Nat.le_of_eq eD) ?_
  rw [<- eD]
  exact z7p (Heap.get?_push_size _ rfl) (zbx X.prog X.w)
 have low:∀ b ∈ fp,b < s2.heap.objs.size:=fun b hb=>let ⟨o,e,_⟩:=Tn.obj _ _ sta b hb; Heap.lt_size e
 have fpb:∀ b ∈ fp,FpOk X pins (upd Ha D (SetSO X.prog X.w D [])) b/\b < sb.heap.objs.size:=fun b hb=>by
  refine ⟨⟨?_,(fpa b hb).2⟩,by rw [hpb,Heap.size_push]; exact Nat.lt_succ_of_lt (low b hb)⟩
  rw [upd_ne (by rw [<- eD]; exact Nat.ne_of_lt (low b hb))]
  exact (fpa b hb).1
 have stb:tn 0 sb.heap:=Tn.keep _ _ _ sta fun b _ o e=>by rw [hpb]; exact Heap.get?_push_of_some _ e
 have Ic:=block_start Ib ok hN fpb
 generalize eHb:upd Ha D (SetSO X.prog X.w D [])=Hb at Ib Ic w0 fpb
 have pg:=hg sb Hb sb.heap.objs.size (cellsFrom (sb.heap.objs.size+1) scope.names (cloFrom X.env.cells scope.names [])) fp
 have pt:=ht sb Hb sb.heap.objs.size (cellsFrom (sb.heap.objs.size+1) scope.names (cloFrom X.env.cells scope.names [])) fp
 have pe:=he sb Hb sb.heap.objs.size (cellsFrom (sb.heap.objs.size+1) scope.names (cloFrom X.env.cells scope.names [])) fp
 show codeAny (model X.prog X.w) X.A (.compStart (.SetComp elt [⟨tg,iter,ifs,0⟩] scope pos) 0 (.ref it) (.ref D) (compEnvC scope (cellsFrom (sb.heap.objs.size+1) scope.names (cloFrom X.env.cells scope.names [])) sb.heap.objs.size X.env)) (compPost (model X.prog X.w) X.A X.xe none (EP X pins σ Q) (.ref D) sb.heap.objs.size) { sb with heap:=pushCells (sb.heap.push { cls:=.type "dict",data:=.dict #[] }) scope.names }
 have noneF:∀ b ∈ fp,Hb b=none:=fun b hb=>(fpb b hb).1.1
 generalize ece:compEnvC scope (cellsFrom (sb.heap.objs.size+1) scope.names (cloFrom X.env.cells scope.names [])) sb.heap.objs.size X.env=ce at Ic pg pt pe ⊢
 have ecl:ce.locals=sb.heap.objs.size:=by subst ece; rfl
 generalize esc:({ sb with heap:=pushCells (sb.heap.push { cls:=.type "dict",data:=.dict #[] }) scope.names }:Shared)=sc at Ic ⊢
 have stc:tn 0 sc.heap:=Tn.keep _ _ _ stb fun b _ o e=>by rw [<- esc]; exact pushCells_keeps _ _ _ _ (Heap.get?_push_of_some _ e)
 -- the block's context
 let XB:Cx:=X.blk sb Hb scope ce fp
 have still:∀ {τ:L2.St} {G:Hp} {t:Shared},Inv XB [] τ G t->(∀ b ∈ fp,G b=none)->∀ b ∈ fp,FpOk XB [] G b:=fun {τ G t} I' hn b hb =>
  ⟨hn b hb,(I'.ok.exf b hb).1,I'.ok.exfs b hb,.inl hb,fun x c e=>(I'.ok.exf b hb).2 x c e,fun p hp=>absurd (show p ∈ ([]:List (Addr × Obj))++[] from hp) (by simp)⟩
 have loop:codeAny (model X.prog X.w) X.A (.compLoop (.SetComp elt [⟨tg,iter,ifs,0⟩] scope pos) 0 (.ref it) (.ref D) ce) (compPost (model X.prog X.w) X.A X.xe none (EP X pins σ Q) (.ref D) sb.heap.objs.size) sc:=by
  refine PpSet.compLoopS_any (fun n t=>∃ i G,Inv XB [] (wipe σ (own.map (·.2))) G t/\tn i t.heap/\(∀ b ∈ fp,G b=none)/\W i n G) ?_ m0 ⟨0,Hb,Ic,stc,noneF,w0⟩
  rintro n t ⟨i,G,It,stt,nt,wt⟩
  rcases turn i n G wt with ⟨ends,qq⟩ | ⟨goes,Nx,hNx,step⟩
  ·refine thnF (Tn.done XB rfl rfl rfl hc i [] t _ G (fun _ _=>False) It (still It nt) stt ends) fun r t6 ⟨er,I6⟩=>?_
   subst er
   have I7:Inv X pins σ G t6:=Ib.call' (ch:=fp) I6.os I6.base I6.hok I6.bare fun b hb=>⟨(fpb b hb).1.2.2.2.1,(fpb b hb).1.2.1,(fpb b hb).1.2.2.2.2.1,(fpb b hb).1.2.2.2.2.2⟩
   have nC:G sb.heap.objs.size=none:=ecl ▸ (show G ce.locals=none from I6.free)
   obtain ⟨m,hn,_⟩:=I6.loc
   have hn:t6.heap.Ns sb.heap.objs.size m:=ecl ▸ (show t6.heap.Ns ce.locals m from hn)
   obtain ⟨f0,f1,f2,f3,f4,f5⟩:=Ib.fpOk (Nat.le_refl _) nC
   exact ⟨m,hn,fun h'' same=>⟨.ref D,G,I7.turned (t':=t6.toks) (fun b o hb e=>(same.2 b hb).trans e) f0 f1 f3 f4 f5,rfl,qq⟩⟩
  ·refine thnF (Tn.item XB rfl rfl rfl hc i [] t _ G (fun _ _=>False) It (still It nt) stt goes) fun r t6 ⟨u,er,h6⟩=>?_
   subst er
   refine thnF h6 fun _ t7 ⟨x,G7,I7,r7,y7,st7,n7⟩=>?_
   have P7:=I7.pinned (still I7 n7) (Tn.obj _ _ st7)
   refine thnF (pg.run _ t7 _ G7 x u _ P7 r7 (step x G7 y7)) fun _ t8 ⟨τ,G8,I8,hw,q8⟩=>?_
   refine thnF (pt.run _ t8 τ G8 _ I8 q8) fun b t9 ⟨G9,I9,q9⟩=>?_
   have back:∀ {t':Shared} {G':Hp},Inv XB ([]++pinsAt fp t7.heap) τ G' t'->Nx G'->∃ m,m < n/\∃ i G,Inv XB [] (wipe σ (own.map (·.2))) G t'/\tn i t'.heap/\(∀ b ∈ fp,G b=none)/\W i m G:=fun {t' G'} I' nx=>by
    obtain ⟨m',hm,w'⟩:=hNx G' nx
    have keep:∀ b ∈ fp,∀ o,t7.heap.get? b=some o->t'.heap.get? b=some o/\G' b=none:=fun b hb o e =>
     have z:=I'.pin (b,o) (mar _ (mar _ (mem_pinsAt hb e)))
     ⟨z.1,z.2.1⟩
    refine ⟨m',hm,i+1,G',(I'.unpinned (pins:=[])).weak (by rw [<- hw,wipe_length]) (fun j v e=>(wipe_some (hw ▸ e)).1),Tn.keep _ _ _ st7 fun b hb o e=>(keep b hb o e).1,fun b hb=>?_,w'⟩
    obtain ⟨o,e,_⟩:=Tn.obj _ _ st7 b hb
    exact (keep b hb o e).2
   cases b with
   | false=>exact back I9 q9
   | true =>
    refine thnF (pe.run _ t9 τ G9 _ I9 q9) fun z t10 ⟨yv,G10,I10,r10,zz,l0,ey,hD10,room,nx⟩=>?_
    subst ey
    obtain ⟨tk,rfl⟩:=r10
    exact zg1 (X:=XB) I10 hD10 room fun t11 I11=>back I11 nx
 exact PpSet.codeAny_compStart_set loop (Tn.self X.A 0 _ _ _ stc loop)
end
open PySem.Froz (SD sObj TxOk addTx tailTx)
theorem zch {k x:Str} {l:List Str}:k ∈ insS x l ↔ k=x\/k ∈ l:=by
 unfold insS
 split
 ·rename_i h
  exact ⟨.inr,fun z=>z.elim (fun e=>e ▸ h) id⟩
 ·exact List.mem_cons
theorem zc9 (x:Str) (l:List Str):(insS x l).length<=l.length+1:=by
 unfold insS
 split
 ·omega
 ·simp
def TxAt (P:Program) (w:World) (h:Heap) (a:Addr) (l:List Str):Prop:=∃ D:SD,h.get? a=some (sObj "set" D)/\TxS P w D l
theorem TxAt.keep {P:Program} {w:World} {h h':Heap} {a:Addr} {l:List Str} (S:TxAt P w h a l) (k:∀ o,h.get? a=some o->h'.get? a=some o):TxAt P w h' a l:=by
 obtain ⟨D,e,F⟩:=S
 exact ⟨D,k _ e,F⟩
theorem z4h:∀ {l:List Str} {p:Str},risingS p l=true->∀ x ∈ l,¬ x.cps.toList < p.cps.toList
 | [],_,_,x,h=>by cases h
 | y::r,p,h,x,hx=>by
  rw [risingS,Bool.and_eq_true,Bool.not_eq_true',ltCps_eq] at h
  have h1:¬ y.cps.toList < p.cps.toList:=of_decide_eq_false h.1
  rcases List.mem_cons.mp hx with e | e
  ·rw [e]; exact h1
  ·exact List.le_trans h1 (z4h h.2 x e)
theorem z50 {x:Str} {r:List Str} (h:sortedS (x::r)=true):sortedS r=true:=by
 cases r with
 | nil=>rfl
 | cons y s =>
  have h:risingS x (y::s)=true:=h
  rw [risingS,Bool.and_eq_true] at h
  exact h.2
theorem z68:∀ {a b:List Str},a.Perm b->sortedS a=true->sortedS b=true->a=b
 | [],b,p,_,_=>(List.nil_perm.mp p).symm
 | x::r,[],p,_,_=>absurd p.length_eq (by simp)
 | x::r,y::s,p,ha,hb=>by
  have ha':risingS x r=true:=ha
  have hb':risingS y s=true:=hb
  have e:x=y:=by
   refine zg4 (List.le_antisymm ?_ ?_)
   ·rcases List.mem_cons.mp (p.mem_iff.mpr (mcs (a:=y))) with z | z
    ·rw [z]; exact List.lt_irrefl _
    ·exact z4h ha' y z
   ·rcases List.mem_cons.mp (p.mem_iff.mp (mcs (a:=x))) with z | z
    ·rw [z]; exact List.lt_irrefl _
    ·exact z4h hb' x z
  subst e
  rw [z68 (List.perm_cons x |>.mp p) (z50 ha) (z50 hb)]
theorem zc3 {b s i j:Nat} (hs:s=1\/s=3\/s=5\/s=7\/s=9\/s=11\/s=15\/s=17) (hi:i < 8) (hj:j < 8) (e:(b+s*i) % 26=(b+s*j) % 26):i=j:=by
 rcases hs with rfl | rfl | rfl | rfl | rfl | rfl | rfl | rfl <;> omega
section
variable {J:It} {n:Nat} {G:Hp->Prop} {Y:Nat->Hp->V->Hp->Prop} {P:Program} {w':World}
theorem SetSO.noTup {a:Addr} {l:List Str}:(∀ xs,SetSO P w' a l ≠ .tup xs)/\∀ u v,SetSO P w' a l ≠ .frz u v:=⟨(fun _ z=>nomatch z),(fun _ _ z=>nomatch z)⟩
theorem zi4 (w:Walk J n G Y) {g:TG} {tt:TT} {te:TE} {vs:List Nat} {σ:L2.St} {H:Hp} {D:Addr} {Qd:Hp->Prop} (hD:H D=none) (hn:n+1 < scanBound) (R:Nat->List Str->Hp->Prop) (h0:R 0 [] H) (hG:∀ H2,SB [] H H2->G H2)
  (st:∀ i us H2 H3,SB [D] H2 H3->R i us H2->R i us H3)
  (turn:∀ (Pv:Hp->Prop) i x H2 H' us,i < n->SB [] H H2->Y i H2 x H'->R i us H2->us.length<=i->(∀ z H5,SB [] H2 H5->R (i+1) (insS z us) H5->∃ (z':Str) (l:List Str),V.str z=.str z'/\H5 D=some (SetSO P w' D l)/\l.length+1 < scanBound/\Pv (upd H5 D (SetSO P w' D (insS z' l)))) ->
   (∀ H4,SB [] H2 H4->R (i+1) us H4->Pv H4)->g x (wipe σ vs) H' fun σ2 H3=>wipe σ2 vs=wipe σ vs/\tt σ2 H3 fun b H4 =>
    if b=true then te σ2 H4 fun y H5=>∃ (z:Str) (l:List Str),y=.str z/\H5 D=some (SetSO P w' D l)/\l.length+1 < scanBound/\Pv (upd H5 D (SetSO P w' D (insS z l))) else Pv H4)
  (done:∀ us H2,SB [] H H2->H2 D=some (SetSO P w' D us)->R n us H2->us.length<=n->Qd H2) :
  ∃ W:Nat->Nat->Hp->Prop,(∃ m,W 0 m (upd H D (SetSO P w' D [])))/\∀ i m Hi,W i m Hi ->
   (J.stop i Hi/\Qd Hi)\/(J.go i Hi/\∃ Nx:Hp->Prop,(∀ H',Nx H'->∃ m',m' < m/\W (i+1) m' H')/\∀ x H',J.yld i Hi x H'->g x (wipe σ vs) H' fun σ2 H2=>wipe σ2 vs=wipe σ vs/\tt σ2 H2 fun b H3 =>
    if b=true then te σ2 H3 fun y H4=>∃ (z:Str) (l:List Str),y=.str z/\H4 D=some (SetSO P w' D l)/\l.length+1 < scanBound/\Nx (upd H4 D (SetSO P w' D (insS z l))) else Nx H3):=by
 refine lcG (body:=fun Nx x H'=>g x (wipe σ vs) H' fun σ2 H2=>wipe σ2 vs=wipe σ vs/\tt σ2 H2 fun b H3 =>
    if b=true then te σ2 H3 fun y H4=>∃ (z:Str) (l:List Str),y=.str z/\H4 D=some (SetSO P w' D l)/\l.length+1 < scanBound/\Nx (upd H4 D (SetSO P w' D (insS z l))) else Nx H3) w (fun i H2=>SB [D] H H2/\∃ us,H2 D=some (SetSO P w' D us)/\R i us H2/\us.length<=i) ⟨SB.new hD _,[],upd_same,st _ _ _ _ (SB.new hD _) h0,Nat.le_refl _⟩ (fun i H2 _ h=>hG H2 (h.1.drop hD)) (fun i x H2 H' hi h y=>?_) (fun H2 h=>?_)
 ·obtain ⟨s2,us,hD2,hR,hl⟩:=h
  refine turn _ i x H2 H' us hi (s2.drop hD) y hR hl (fun z H5 s5 r5=>?_) (fun H4 s4 r4=>⟨s2.trans s4.nil,us,s4.keep _ _ hD2 nmn,r4,by omega⟩)
  have hD5:=s5.keep _ _ hD2 nmn
  have t6:SB [D] H5 (upd H5 D (SetSO P w' D (insS z us))):=SB.setG hD5 (by simp) SetSO.noTup.1 SetSO.noTup.2 _
  refine ⟨z,us,rfl,hD5,by omega,(s2.trans s5.nil).trans t6,_,upd_same,st _ _ _ _ t6 r5,?_⟩
  have:=zc9 z us
  omega
 ·obtain ⟨s2,us,hD2,hR,hl⟩:=h
  exact done us H2 (s2.drop hD) hD2 hR hl
end
def z6n (K:PySem.W.Frag) (C N:Addr):Sp:=fun vs H Q E=>∃ (v:V) (b:Bk) (n:Str),vs=[v,.str n]/\BkA K C H v b/\b.length<=1000/\(∀ k ∈ b,k.rs.length<=1000) /\
 z38 N b n H E fun k=>∀ (l:Addr) (us:List V) (H':Hp),SB [] H H'->H l=none->H' l=some (.lst us)->Bears K H' Ru.enc us ((.nil,.nil)::k.rs)->Q (.ref l) H'
section
variable {M:Model} {A:Around} {E:Value->Shared->Prop} {s:Shared} {env:Env}
theorem zh0 {func:Expr} {args:List Expr} {kws:List Keyword} {pos:Pos} {Q:Value->Shared->Prop}
  (h:wpAny M A (eval func env) (fun f s₁=>wpAny M A (callWith pos f [] (backTo pos (starEach args env)) (backToKw pos (keywordEach kws env))) Q E s₁) E s)
  (he:eval (.Call func args kws pos) env=(do callWith pos (<- eval func env) [] (backTo pos (starEach args env)) (backToKw pos (keywordEach kws env))):=by rfl) :
  wpAny M A (eval (.Call func args kws pos) env) Q E s:=by
 rw [he]; exact wpAny_bind h
theorem z7f {pos:Pos} {T:String} {e:Expr} {rest:List Expr} {kws:List Keyword} {Q:Value->Shared->Prop}
  (h:wpAny M A (spliced (backTo pos (starEach (e::rest) env))) (fun vs s₁=>wpAny M A (evalAll ((backToKw pos (keywordEach kws env)).map (·.2)))
   (fun kvs s₂=>wpAny M A (call (.type T) vs (((backToKw pos (keywordEach kws env)).filterMap (·.1)).zip kvs)) Q E s₂) E s₁) E s)
  (he:starEach (e::rest) env=(false,eval e env)::starEach rest env)
  (hplain:(backTo pos (starEach rest env)).any (·.1)=false)
  (hall:(backToKw pos (keywordEach kws env)).all (·.1.isSome)=true)
  (hkw:(backToKw pos (keywordEach kws env)).any (·.1.isNone)=false) :
  wpAny M A (callWith pos (.type T) [] (backTo pos (starEach (e::rest) env)) (backToKw pos (keywordEach kws env))) Q E s:=by
 rw [he] at h ⊢
 have h2:(backTo pos ((false,eval e env)::starEach rest env)).any (·.1)=false:=by
  show (false || (backTo pos (starEach rest env)).any (·.1))=false
  rw [hplain]; rfl
 have h3:backTo pos ((false,eval e env)::starEach rest env)=(false,eval e env)::backTo pos (starEach rest env):=rfl
 rw [h3] at h h2 ⊢
 unfold callWith
 refine wpAny_bind (wpAny_holding (wpAny_mono (evalArgs_kwB (Q:=fun a s₁=>wpAny M A (call (.type T) ([]++a.pos) a.kw) Q E s₁) hall h) (fun a s₁ h₁=>wpAny_bind (wpAny_standAt ?_)) fun _ _ x=>x))
 simp only [h2,hkw,Bool.or_false]
 refine wpAny_bind (wpAny_pure ?_)
 exact wpAny_bind (wpAny_mono h₁ (fun r s₂ hr=>wpAny_bind (wpAny_holding (wpAny_point (wpAny_pure hr)))) fun _ _ x=>x)
end
/-- the list at a,each item in a new pair with its number,from one -/
def IteS (K:PySem.W.Frag) (a:Addr):It :=
 ⟨fun i H=>∃ (xs:List V) (x:V),SqL K H a xs/\xs[i]?=some x,
  fun i H v H2=>∃ T x,v=.ref T/\H T=none/\H2=upd H T (.tup [.int ((i+1:Nat):Int),x])/\∀ xs,SqL K H a xs->xs[i]?=some x,
  fun i H=>∃ xs:List V,SqL K H a xs/\xs.length=i⟩
theorem zad {P:Program} {w:World} {K:PySem.W.Frag} {elts:List Expr} {kk:Nat} {tpos:Pos} (a e it:Addr) (hei:e ≠ it) (hai:a ≠ it) (hea:e ≠ a) :
  Turn P w K (.Tuple elts kk tpos) (IteS K a) [e,it] e (fun i h=>(∃ old,IsEnum h e it ((i+1:Nat):Int) old)/\h.IsListIter it a i) where
 mem:=by simp
 obj:=fun i h st b hb=>by
  obtain ⟨⟨old,he⟩,o,ho,hc,hd⟩:=st
  rcases (show b=e\/b=it by simpa using hb) with z | z
  ·rw [z]; exact ⟨_,he,fun v q=>nomatch q⟩
  ·rw [z]; exact ⟨o,ho,fun v q=>by rw [hd] at q; cases q⟩
 keep:=fun i h h2 st k=>let ⟨⟨old,he⟩,hi⟩:=st; ⟨⟨old,k e (by simp) _ he⟩,hi.at fun o q=>k it (by simp) o q⟩
 item:=by
  intro X hP hw hK hc i pins s σ H E I hf st hg
  subst hP hw hK
  obtain ⟨⟨old,he⟩,hit⟩:=st
  obtain ⟨xs,x,hq,hx⟩:=hg
  obtain ⟨its,rv,p,hz⟩:=I.list hq
  obtain ⟨u,hu,ru⟩:=rv.get hx
  have hel:e < s.heap.objs.size:=Heap.lt_size he
  have hil:it < s.heap.objs.size:=by obtain ⟨_,z,_⟩:=hit; exact Heap.lt_size z
  have Dr:=Draws.list (prog:=X.prog) (w:=X.w) (A:=X.A.in1) (I.ok.hd hc) it a hai its.toArray
  have hlt:i < its.toArray.size:=by
   have:=(List.getElem?_eq_some_iff.mp hu).1
   simpa using this
  refine wpAny_pyNext_enum_itemC Dr he ⟨hit,p.isList⟩ hlt hei (by simp [hei,hea]) fun y h2 tk hy ho hst hT hsz hk=>?_
  have hyu:y=u:=by
   have h3:its[i]?=some y:=by simpa using hy
   rw [hu] at h3; exact (Option.some.inj h3).symm
  subst hyu
  refine ⟨_,rfl,wpAny_letOwnedTupleGo_enum (s:={ s with heap:=h2,toks:=tk+1 }) ho fun h3 he3 sb=>?_⟩
  have hT2:h3.get? s.heap.objs.size=some { cls:=.type "tuple",data:=.seq #[.int ((i+1:Nat):Int) tk,y] }:=(sb.2 _ (Nat.ne_of_gt hel)).trans hT
  have nw:ObjOk X.prog X.w (upd H s.heap.objs.size (.tup [.int ((i+1:Nat):Int),x])) h3 s.heap.objs.size (.tup [.int ((i+1:Nat):Int),x]):=⟨by show 2<=sizeLine; decide,[.int ((i+1:Nat):Int) tk,y],.cons ⟨_,rfl⟩ (.cons ru .nil),⟨_,hT2,rfl,_,rfl⟩⟩
  have I1:Inv X pins σ (upd H s.heap.objs.size (.tup [.int ((i+1:Nat):Int),x])) { s with heap:=h3,toks:=tk+1 }:=I.turnedNew (ch:=[e,it]) (fun b ob hb z=>(sb.2 b (fun y=>hb (by simp [y]))).trans (hk b ob (fun y=>hb (by simp [y])) (fun y=>hb (by simp [y])) z)) hf (Nat.le_refl _) nw
  refine ⟨.ref s.heap.objs.size,_,I1,rfl,⟨_,x,rfl,I.hok.fresh (Nat.le_refl _),rfl,fun ys hy=>by rw [I.list_inj hy hq]; exact hx⟩,⟨⟨y,?_⟩,hst.1.at fun o q=>(sb.2 it (Ne.symm hei)).trans q⟩,fun b hb=>?_⟩
  ·rw [show ((i+1+1:Nat):Int)=((i+1:Nat):Int)+1 by omega]; exact he3
  ·have hb2:b < s.heap.objs.size:=by
    rcases (show b=e\/b=it by simpa using hb) with z | z
    ·rw [z]; exact hel
    ·rw [z]; exact hil
   rw [upd_ne (Nat.ne_of_lt hb2)]; exact (hf b hb).1
 done:=by
  intro X hP hw hK hc i pins s σ H E I hf st hg
  subst hP hw hK
  obtain ⟨⟨old,he⟩,hit⟩:=st
  obtain ⟨xs,hq,hx⟩:=hg
  obtain ⟨its,rv,p,hz⟩:=I.list hq
  obtain ⟨f0,f1,f2,f3,f4,f5⟩:=hf it (by simp)
  have hl:=rv.length
  have Dr:=Draws.list (prog:=X.prog) (w:=X.w) (A:=X.A.in1) (I.ok.hd hc) it a hai its.toArray
  have hn:its.toArray.size=i:=by simp; omega
  refine wpAny_pyNext_enum_endD Dr he ⟨by rw [hn]; exact hit,p.isList⟩ fun h2 eb=>⟨rfl,I.turned (t':=s.toks) (fun b o hb z=>eb b o hb z) f0 f1 f3 f4 f5⟩
 self:=fun A i s Q E st h=>let ⟨⟨_,he⟩,_⟩:=st; wpAny_pyIter_enum he h
def ziw (K:PySem.W.Frag) (te:TE):TI:=fun σ H R=>te σ H fun v H1=>∃ a xs,v=.ref a/\SqL K H1 a xs/\R (IteS K a) H1
theorem zc5 {X:Cx} {ex:Expr} {te:TE} {p pos tpos kp cp:Pos} {elts:List Expr} {kk ck:Nat} (hg:Gl X "enumerate") (hm:X.mg "enumerate"=none) (he:PE X ex te) (hs:starEach [ex] X.env=(false,eval ex X.env)::starEach [] X.env:=by rfl) :
  PI X (.Tuple elts kk tpos) (.Call (.Name "enumerate" p) [ex] [⟨some "start",.Constant (.int 1) ck cp,kp⟩] pos) (ziw X.K te):=by
 refine ⟨fun pins s σ H R I h=>?_⟩
 refine zh0 (ld_blt I hg hm boot_enumerate (z7f (args_cons (thn (he.run pins s σ H _ I h) fun u s1 ⟨v,H1,I1,r1,q1⟩=>args_nil ?_) hs) hs rfl rfl rfl))
 obtain ⟨a,xs,ev,hq,q⟩:=q1
 subst ev
 cases r1
 refine kws_cons (thn ((pe_int (X:=X) (i:=1) (j:=ck) (pos:=cp)).run pins s1 σ H1 (fun v H2=>v=.int 1/\H2=H1) I1 ⟨rfl,rfl⟩) fun u s2 ⟨v,H2,I2,r2,q2⟩=>kws_nil ?_)
 obtain ⟨rfl,rfl⟩:=q2
 obtain ⟨t,rfl⟩:∃ t,u=.int 1 t:=r2
 obtain ⟨its,rv,pt,hz⟩:=I2.list hq
 have ht:s2.heap.IsList a its.toArray:=pt.isList
 have hal:a < s2.heap.objs.size:=by obtain ⟨_,z,_⟩:=ht; exact Heap.lt_size z
 show wpAny _ _ (call (.type "enumerate") [.ref a] [(Str.ofString "start",.int 1 t)]) _ _ _
 refine enum_begins_start (begins_list a its.toArray) ht (by decide) (by decide) fun h2 he2 hit hsz hk=>wpAny_pyIter_enum he2 ?_
 have I3:Inv X pins σ H2 { s2 with heap:=h2 }:=I2.kept (t':=s2.toks) hk
 refine ⟨s2.heap.objs.size+1,[s2.heap.objs.size+1,s2.heap.objs.size],_,_,H2,rfl,I3,zad a (s2.heap.objs.size+1) s2.heap.objs.size (Nat.succ_ne_self _) (Nat.ne_of_lt hal) (Nat.ne_of_gt (Nat.lt_succ_of_lt hal)),⟨⟨.none,he2⟩,⟨_,hit,rfl,rfl⟩⟩,fun b hb=>?_,q⟩
 have hle:s2.heap.objs.size<=b:=by
  rcases (show b=s2.heap.objs.size+1\/b=s2.heap.objs.size by simpa using hb) with z | z
  ·rw [z]; exact Nat.le_add_right _ _
  ·rw [z]; exact Nat.le_refl _
 exact I2.fpOk hle (I2.hok.fresh hle)
theorem zak {K:PySem.W.Frag} {a:Addr} {xs:List V}:Walk (IteS K a) xs.length (fun H=>SqL K H a xs) (YPair (fun i=>some (.int ((i+1:Nat):Int))) (fun i=>xs[i]?)):=by
 refine ⟨fun i _ hi q=>⟨xs,xs[i],q,by simp [hi]⟩,fun _ q=>⟨xs,q,rfl⟩,fun i H v H2 _ q y=>?_⟩
 obtain ⟨T,x,h1,h2,h3,h4⟩:=y
 exact ⟨T,.int ((i+1:Nat):Int),x,h1,h2,h3,rfl,h4 xs q⟩
namespace Gr
def ak:Gr->Nat->List (Pl × Str)
 | .nil,_=>[]
 | .cons k g _ r,i=>(([i],k)::(g.ak 0).map fun x=>(i::x.1,x.2))++r.ak (i+1)
def akP (p:Tr × Int) (i:Nat):List (Pl × Str):=([i],p.1.1)::(p.1.2.ak 0).map fun x=>(i::x.1,x.2)
def aks:List (Tr × Int)->Nat->List (Pl × Str)
 | [],_=>[]
 | p::r,i=>akP p i++aks r (i+1)
theorem ak_ps:∀ (g:Gr) (i:Nat),g.ak i=aks g.ps i
 | .nil,_=>rfl
 | .cons k g m r,i=>by show _++r.ak (i+1)=_++aks r.ps (i+1); rw [ak_ps r]; rfl
theorem aks_append:∀ (as bs:List (Tr × Int)) (i:Nat),aks (as++bs) i=aks as i++aks bs (i+as.length)
 | [],bs,i=>by simp [aks]
 | p::r,bs,i=>by
  show akP p i++aks (r++bs) (i+1)=_
  rw [aks_append r bs (i+1)]
  show _=(akP p i++aks r (i+1))++aks bs (i+(r.length+1))
  rw [List.append_assoc,show i+1+r.length=i+(r.length+1) by omega]
theorem aks_take {bs:List (Tr × Int)} {i:Nat} {p:Tr × Int} (h:bs[i]?=some p):aks (bs.take (i+1)) 0=aks (bs.take i) 0++akP p i:=by
 have hl:i < bs.length:=(List.getElem?_eq_some_iff.mp h).1
 rw [List.take_add_one,h,aks_append,List.length_take,Nat.min_eq_left (by omega),Nat.zero_add]
 show _++(akP p i++[])=_
 rw [List.append_nil]
theorem ak_kinds:∀ (g:Gr) (i:Nat),(g.ak i).map (·.2)=g.within.map (·.1.1)
 | .nil,_=>rfl
 | .cons k g m r,i=>by
  have h1:=ak_kinds g 0
  have h2:=ak_kinds r (i+1)
  show ((([i],k)::(g.ak 0).map fun x=>(i::x.1,x.2))++r.ak (i+1)).map (·.2)=(((k,g),m)::(g.within++r.within)).map (·.1.1)
  rw [List.map_append,List.map_cons,List.map_map,h2,List.map_cons,List.map_append,<- h1]
  rfl
theorem ak_len (g:Gr) (i:Nat):(g.ak i).length=g.parts:=by
 have:=congrArg List.length (ak_kinds g i)
 rw [List.length_map,List.length_map,within_length] at this
 exact this
theorem ak_long:∀ (g:Gr) (i:Nat),∀ x ∈ g.ak i,x.1.length<=g.deep
 | .nil,_,x,h=>by cases h
 | .cons k g m r,i,x,h=>by
  have h1:=ak_long g 0
  have h2:=ak_long r (i+1)
  show x.1.length<=max (1+g.deep) r.deep
  rcases List.mem_append.mp h with h | h
  ·rcases List.mem_cons.mp h with h | h
   ·rw [h]; show 1<=_; omega
   ·obtain ⟨q,hq,rfl⟩:=List.mem_map.mp h
    have:=h1 q hq
    show q.1.length+1<=_; omega
  ·have:=h2 x h; omega
theorem lk_root {a b:Str} {g:Gr} {os:List (Option Int)} (h:os ≠ []):lk (a,g) os=lk (b,g) os:=by
 cases os with
 | nil=>exact absurd rfl h
 | cons o r=>rfl
theorem ak_at {G:Gr}:∀ (g:Gr) (i:Nat),G.ps.drop i=g.ps->∀ x ∈ g.ak i,plO x.1 ≠ []/\∃ t:Tr,lk ("",G) (plO x.1)=some t/\t.1=x.2
 | .nil,_,_,x,h=>by cases h
 | .cons k g m r,i,hd,x,h=>by
  have hd':G.ps.drop i=((k,g),m)::r.ps:=hd
  have hi:G.ps[i]?=some ((k,g),m):=by
   have:=congrArg (·[0]?) hd'
   simpa using this
  have hs:stp G (some ((i:Nat):Int))=some (k,g):=by
   show (if (0:Int)<=((i:Nat):Int) then (G.ps[((i:Nat):Int).toNat]?).map (·.1) else none)=_
   rw [if_pos (by omega),Int.toNat_natCast,hi]; rfl
  rcases List.mem_append.mp h with h | h
  ·rcases List.mem_cons.mp h with h | h
   ·rw [h]
    refine ⟨by simp [plO],(k,g),?_,rfl⟩
    show (stp G (some ((i:Nat):Int))).bind _=_
    rw [hs]; rfl
   ·obtain ⟨q,hq,rfl⟩:=List.mem_map.mp h
    obtain ⟨n1,t,e1,e2⟩:=ak_at (G:=g) g 0 rfl q hq
    refine ⟨by simp [plO],t,?_,e2⟩
    show (stp G (some ((i:Nat):Int))).bind (fun u=>lk u (plO q.1))=_
    rw [hs]
    show lk (k,g) (plO q.1)=some t
    rw [lk_root (b:="") n1,e1]
  ·refine ak_at r (i+1) ?_ x h
   rw [<- List.drop_drop,hd']; rfl
theorem ak_place (g:Gr):∀ x ∈ g.ak 0,plO x.1 ≠ []/\∃ t:Tr,lk ("",g) (plO x.1)=some t/\t.1=x.2:=ak_at g 0 rfl
theorem deep_parts:∀ g:Gr,g.deep<=g.parts
 | .nil=>Nat.le_refl _
 | .cons k g m r=>by
  have h1:=deep_parts g
  have h2:=deep_parts r
  show max (1+g.deep) r.deep<=1+g.parts+r.parts
  omega
end Gr
def z2w (K:PySem.W.Frag) (n:Nat):Sp:=fun vs H Q _=>∃ (v:V) (g:Gr),vs=[v]/\GA K H v g/\g.deep < n/\g.deep<=100/\g.parts<=1000/\∀ (D:Addr) (us:List V) (H':Hp),SB [] H H'->H D=none->H' D=some (.lst us)->Bears K H' z19 us ((g.ak 0).map (·.1))->Q (.ref D) H'
structure Sx where
 n:Str
 i:Nat
 wd:Str
 p:Pl
 k:Str
def Sx.st (s:Sx):PyData:=.tuple [.str s.n,.int (s.i:Int),.str s.wd,z19 s.p]
def Sx.enc (s:Sx):PyData:=.tuple [s.st,.str s.k]
theorem Sx.noList_st (s:Sx):z03 s.st=true:=by simp [Sx.st,z03,z06,z0l]
theorem Sx.noList_enc (s:Sx):z03 s.enc=true:=by simp [Sx.enc,z03,z06,Sx.noList_st]
def stG (n:Str) (i:Nat) (wd:Str) (g:Gr):List Sx:=(g.ak 0).map fun x=>⟨n,i,wd,x.1,x.2⟩
def stR (n:Str) (x:Ru × Nat):List Sx:=stG n x.2 "once" x.1.1++stG n x.2 "each" x.1.2
def Kd.steps (k:Kd):List Sx:=(k.rs.zipIdx 1).flatMap (stR k.n)
/-- the kinds that stand in the rules -/
def ledR (rs:List Ru):List Str:=rs.flatMap fun r=>r.within.map (·.1.1)
theorem z82 (n:Str) (i:Nat) (wd:Str) (g:Gr):(stG n i wd g).map (·.k)=g.within.map (·.1.1):=by
 unfold stG
 rw [List.map_map,<- Gr.ak_kinds g 0]; rfl
theorem z20 (n:Str) (i:Nat) (wd:Str) (g:Gr):(stG n i wd g).length=g.parts:=by
 unfold stG
 rw [List.length_map,Gr.ak_len]
theorem zbp (n:Str) (x:Ru × Nat):(stR n x).map (·.k)=x.1.within.map (·.1.1):=by
 unfold stR Ru.within
 rw [List.map_append,List.map_append,z82,z82]
theorem zfq (n:Str) (x:Ru × Nat):(stR n x).length=x.1.1.parts+x.1.2.parts:=by
 unfold stR
 rw [List.length_append,z20,z20]
theorem z6u (n:Str):∀ (rs:List Ru) (i:Nat),((rs.zipIdx i).flatMap (stR n)).map (·.k)=ledR rs
 | [],_=>rfl
 | r::rs,i=>by
  rw [List.zipIdx_cons,List.flatMap_cons,List.map_append,z6u n rs (i+1),zbp]
  rfl
theorem Kd.steps_kinds (k:Kd):k.steps.map (·.k)=ledR k.rs:=z6u _ _ _
theorem zbw (n:Str):∀ (xs:List (Ru × Nat)),(∀ x ∈ xs,x.1.1.parts+x.1.2.parts<=4)->(xs.flatMap (stR n)).length<=4*xs.length
 | [],_=>Nat.le_refl _
 | x::xs,h=>by
  have h1:=zbw n xs fun y hy=>h y (mcm _ hy)
  have h2:=h x mcs
  rw [List.flatMap_cons,List.length_append,zfq,List.length_cons]
  omega
theorem Kd.steps_len {k:Kd} (h4:k.rs.length<=4) (h:∀ r ∈ k.rs,RuOk r):k.steps.length<=16:=by
 have:=zbw k.n (k.rs.zipIdx 1) fun x hx=>(h x.1 (by
  have:=List.mem_zipIdx hx
  rw [this.2.2]; exact List.getElem_mem _)).2.2
 rw [List.length_zipIdx] at this
 show ((k.rs.zipIdx 1).flatMap (stR k.n)).length<=16
 omega
def z4o (K:PySem.W.Frag):Sp:=fun vs H Q _=>∃ (n wd:Str) (i:Nat) (v:V) (g:Gr),vs=[.str n,.int (i:Int),.str wd,v]/\GA K H v g/\g.deep < 20/\g.parts<=60/\∀ (l:Addr) (us:List V) (H':Hp),SB [] H H'->H l=none->H' l=some (.lst us)->Bears K H' Sx.enc us (stG n i wd g)->Q (.ref l) H'
def z51 (K:PySem.W.Frag) (C N:Addr):Sp:=fun vs H Q E=>∃ (v:V) (b:Bk) (n:Str),vs=[v,.str n]/\BkA K C H v b/\b.Ok /\
 z38 N b n H E fun k=>∀ (l:Addr) (us:List V) (H':Hp),SB [] H H'->H l=none->H' l=some (.lst us)->Bears K H' Sx.enc us k.steps->Q (.ref l) H'
/-- the texts of ks,each once,sorted -/
structure SrtOf (ss ks:List Str):Prop where
 srt:sortedS ss=true
 nd:ss.Nodup
 mem:∀ x,x ∈ ss ↔ x ∈ ks
theorem SrtOf.same {a b ks:List Str} (h:SrtOf a ks) (g:SrtOf b ks):a=b :=
 z68 ((List.perm_ext_iff_of_nodup h.nd g.nd).mpr fun x=>(h.mem x).trans (g.mem x).symm) h.srt g.srt
theorem zah {x:Str} {l:List Str} (h:l.Nodup):(insS x l).Nodup:=by
 unfold insS
 split
 ·exact h
 ·rename_i hx
  exact List.nodup_cons.mpr ⟨hx,h⟩
theorem SrtOf.perm {ss l ks:List Str} (pm:ss.Perm l) (s:sortedS ss=true) (nd:l.Nodup) (h:∀ x,x ∈ l ↔ x ∈ ks):SrtOf ss ks :=
 ⟨s,pm.nodup_iff.mpr nd,fun x=>pm.mem_iff.trans (h x)⟩
def z5h (K:PySem.W.Frag) (C N:Addr):Sp:=fun vs H Q E=>∃ (v:V) (b:Bk) (n:Str),vs=[v,.str n]/\BkA K C H v b/\b.Ok /\
 z38 N b n H E fun k=>∀ (l:Addr) (ss:List Str) (H':Hp),SB [] H H'->H l=none->H' l=some (.lst (ss.map V.str))->SrtOf ss (ledR k.rs)->Q (.ref l) H'
def z21 (K:PySem.W.Frag) (n:Nat):Sp:=fun vs H Q _=>∃ (v:V) (g:Gr),vs=[v]/\GA K H v g/\g.deep < n/\g.parts<=60/\∀ (l:Addr) (H':Hp),SB [] H H'->H l=none->H' l=some (.lst ((g.within.map (·.1.1)).map V.str))->Q (.ref l) H'
theorem z8k {ds:List PyData} (h:plSs ds=true) (hd:PyData.depthAll ds<=60):SeqAt.shaped (.list ds)=true:=by
 unfold SeqAt.shaped
 rw [PyData.canLay0,z25 _ h,Bool.true_and]
 have:(PyData.list ds).depth=PyData.depthAll ds+1:=by simp [PyData.depth]
 exact decide_eq_true (by omega)
theorem z79:∀ {ss:List Str},(∀ s ∈ ss,z01 s)->plSs (ss.map PyData.str)=true
 | [],_=>by simp [plSs]
 | s::ss,h=>by
  rw [List.map_cons,plSs,z79 fun x hx=>h x (mcm _ hx),plS,Gr.strOk_name (h s mcs)]; rfl
theorem z6y (ss:List Str):PyData.depthAll (ss.map PyData.str)=0:=by
 induction ss with
 | nil=>simp [PyData.depthAll]
 | cons s ss ih=>rw [List.map_cons,PyData.depthAll,ih]; simp [PyData.depth]
theorem z5w (K:PySem.W.Frag) (H:Hp):∀ ss:List Str,DpAll K H (ss.map V.str) (ss.map PyData.str)
 | []=>.nil
 | s::ss=>.cons (.str _) (z5w K H ss)
theorem z2q {ss:List Str} (h:∀ s ∈ ss,z01 s):SeqAt.shaped (.list (ss.map PyData.str))=true:=z8k (z79 h) (by rw [z6y]; omega)
theorem Bk.Ok.led {b:Bk} (ok:b.Ok) {k:Kd} (hk:k ∈ b):∀ x ∈ ledR k.rs,x ∈ b.names:=fun x hx=>by
 obtain ⟨r,hr,hx⟩:=List.mem_flatMap.mp hx
 obtain ⟨p,hp,rfl⟩:=List.mem_map.mp hx
 exact ((ok.kd k hk).2.2 r hr).2 p hp
theorem Bk.Ok.names {b:Bk} (ok:b.Ok):∀ x ∈ b.names,z01 x:=fun x hx=>by
 obtain ⟨k,hk,rfl⟩:=List.mem_map.mp hx
 exact (ok.kd k hk).1
def z70 (K:PySem.W.Frag) (x:Addr):Bool:=match K.lookup x with
 | some o=>(match o.cls,o.data with
  | .type t,.seq its _=>decide (t="tuple")&&decide (its.toList.length=0)
  | _,_=>false)
 | none=>false
def no2B (K:PySem.W.Frag) (a:Addr):Bool:=match K.lookup a with
 | some o=>(match o.cls,o.data with
  | .type t,.seq its _=>decide (t="tuple")&&(match its.toList with
   | [.ref x,.ref y]=>z70 K x&&z70 K y
   | _=>false)
  | _,_=>false)
 | none=>false
theorem z7x {K:PySem.W.Frag} {x:Addr} (h:z70 K x=true) (H:Hp):SqT K H x []:=by
 unfold z70 at h
 split at h
 ·rename_i o ho
  split at h
  ·rename_i t its n hc hd
   rw [Bool.and_eq_true,decide_eq_true_eq,decide_eq_true_eq] at h
   have hz:its.size=0:=by simpa using h.2
   have he:its.toList=[]:=List.length_eq_zero_iff.mp h.2
   refine .inr ⟨o,its,n,ho,by rw [hc,h.1],hd,by rw [hz]; exact Nat.zero_le _,by rw [he]; exact .nil⟩
  ·cases h
 ·cases h
theorem zg0 {K:PySem.W.Frag} {a:Addr} (h:no2B K a=true) (H:Hp):Dp K H (.ref a) (Ru.enc (.nil,.nil)):=by
 unfold no2B at h
 split at h
 ·rename_i o ho
  split at h
  ·rename_i t its n hc hd
   rw [Bool.and_eq_true,decide_eq_true_eq] at h
   obtain ⟨h1,h2⟩:=h
   split at h2
   ·rename_i x y he
    rw [Bool.and_eq_true] at h2
    have hz:its.size=2:=by have:=congrArg List.length he; simpa using this
    have hs:SqT K H a [.ref x,.ref y]:=.inr ⟨o,its,n,ho,by rw [hc,h1],hd,by rw [hz]; decide,by rw [he]; exact .cons rfl (.cons rfl .nil)⟩
    exact .tup hs (.cons (.tup (z7x h2.1 H) .nil) (.cons (.tup (z7x h2.2 H) .nil) .nil))
   ·cases h2
  ·cases h
 ·cases h
theorem KdAll.erase {K:PySem.W.Frag} {H:Hp} {bad:List Addr}:∀ {vs:List V} {b:Bk} (u:Nat),KdAll K H bad vs b->KdAll K H bad (vs.eraseIdx u) (b.eraseIdx u)
 | _,_,_,.nil=>.nil
 | _,_,0,.cons _ t=>t
 | _,_,u+1,.cons h t=>.cons h (KdAll.erase u t)
theorem Bk.Ok.of_perm {b:Bk} {ks:List Str} (k1:1<=ks.length) (k8:ks.length<=8) (nd:ks.Nodup) (pm:b.names.Perm ks) (h:∀ k ∈ b,KdOk ks k):b.Ok:=by
 have hl:b.length=ks.length:=by have:=pm.length_eq; rwa [List.length_map] at this
 refine ⟨by omega,by omega,pm.nodup_iff.mpr nd,fun k hk=>?_⟩
 obtain ⟨h1,h2,h3⟩:=h k hk
 exact ⟨h1,h2,fun r hr=>⟨(h3 r hr).1,fun p hp=>pm.mem_iff.mpr ((h3 r hr).2 p hp)⟩⟩
theorem zg3 {K:PySem.W.Frag} {σ:L2.St} {H:Hp} {kh:Addr} {xs:List V} {b:Bk} {Q:VK} {i a1 a2 a3:Nat} {vs:List Nat} (hσ:σ[i]?=some (some (.ref kh)))
  (w0:∀ x y z:V,wipe ((((wipe σ vs).set a1 (some x)).set a2 (some y)).set a3 (some z)) vs=wipe σ vs)
  (w1:∀ x y z:V,((((wipe σ vs).set a1 (some x)).set a2 (some y)).set a3 (some z))[a1]?=some (some x)) (w2:∀ x y z:V,((((wipe σ vs).set a1 (some x)).set a2 (some y)).set a3 (some z))[a2]?=some (some y)) (w3:∀ x y z:V,((((wipe σ vs).set a1 (some x)).set a2 (some y)).set a3 (some z))[a3]?=some (some z))
  (hkh:H kh=some (.lst xs)) (hb:KdAll K H [] xs b) (b8:b.length<=8)
  (k:∀ (D:Addr) (us:List V) (ls:List Addr) (H':Hp),SB [] H H'->H D=none->H' D=some (.lst us)->KdAll K H' [D] us b->D ∉ ls->(∀ p ∈ ls,H p=none/\∃ zs,H' p=some (.lst zs))->(∀ u ∈ us,∃ t x y l,u=.ref t/\SqT K H' t [x,y,.ref l]/\l ∈ ls)->Q (.ref D) H') :
  tLc (iList K (tVar i)) (gTup K 3 (gCons (gName a1) (gCons (gName a2) (gCons (gName a3) gNil)))) tYes (tTup (tCons (tVar a1) (tCons (tVar a2) (tCons (tCB (z9z K) (tCons (tVar a3) tNil)) tNil)))) vs σ H Q:=by
 have szl:=sizeLine_eq
 have xl:=hb.length
 refine ⟨_,hσ,kh,rfl,⟨_,SqL.of hkh⟩,fun D hD=>?_⟩
 refine zgh (walk_list (xs:=xs)) [] hD (by simp) (by omega) (fun i us H2=>∃ ls:List Addr,KdAll K H2 [D] us (b.take i)/\D ∉ ls/\(∀ p ∈ ls,H p=none/\∃ zs,H2 p=some (.lst zs))/\∀ u ∈ us,∃ t x y l,u=.ref t/\SqT K H2 t [x,y,.ref l]/\l ∈ ls)
  ⟨[],.nil,by simp,by simp,by simp⟩ (fun H3 s3=>s3.sqL nmn (SqL.of hkh)) (fun i us H2 H3 s3 ⟨ls,h1,h2,h3,h4⟩=>⟨ls,h1.sb s3 NoLst.self,h2,fun p hp=>⟨(h3 p hp).1,(h3 p hp).2.imp fun zs hz=>s3.keep _ _ hz fun z=>h2 (by rw [<- List.mem_singleton.mp z]; exact hp)⟩,fun u hu=>by
   obtain ⟨t,x,y,l,e,h5,h6⟩:=h4 u hu
   exact ⟨t,x,y,l,e,s3.sqT h5,h6⟩⟩) (fun Pv i x Hq H2 us hi s2 y hR hu hD2 fin _=>?_) (fun us H2 s2 hD2 hR hul=>?_)
 ·obtain ⟨rfl,ey⟩:=y
  obtain ⟨ls,g1,g2,g3,g4⟩:=hR
  obtain ⟨k,ek,t,r,zs,rfl,h1,h2,h3,_⟩:=hb.get ey
  refine ⟨t,_,rfl,s2.sqT h1,rfl,_,_,rfl,_,_,rfl,_,_,rfl,rfl,w0 _ _ _,?_⟩
  refine ⟨_,w1 _ _ _,_,w2 _ _ _,_,w3 _ _ _,r,zs,rfl,.inl (SqL.of (s2.keep _ _ h2 nmn)),fun l' hl'=>⟨by show 3<=sizeLine; decide,fun T hT=>?_⟩⟩
  have t3:=SB.new (ps:=[]) hl' (.lst zs)
  have hl3:upd H2 l' (.lst zs) l'=some (.lst zs):=upd_same
  generalize upd H2 l' (.lst zs)=H3 at t3 hl3 hT
  have t4:=SB.new (ps:=[]) hT (.tup [.str k.n,.bl k.w,.ref l'])
  have t24:=t3.trans t4
  have hl4:=t4.keep _ _ hl3 nmn
  have lD:l' ≠ D:=fun z=>by rw [z,hD2] at hl'; cases hl'
  refine fin _ _ t24 ⟨ls++[l'],?_,?_,?_,?_⟩
  ·rw [List.take_add_one,ek]
   exact (g1.sb t24 NoLst.nil).append (.cons ⟨T,l',zs,rfl,SqT.of upd_same,hl4,h3.sb (s2.trans t24) Ru.noList_enc,by simpa using lD⟩ .nil)
  ·intro z
   rcases List.mem_append.mp z with z | z
   ·exact g2 z
   ·exact lD (List.mem_singleton.mp z).symm
  ·intro p hp
   rcases List.mem_append.mp hp with hp | hp
   ·exact ⟨(g3 p hp).1,(g3 p hp).2.imp fun zs hz=>t24.keep _ _ hz nmn⟩
   ·rw [List.mem_singleton.mp hp]
    exact ⟨s2.dom _ hl',zs,hl4⟩
  ·intro u hu
   rcases List.mem_append.mp hu with hu | hu
   ·obtain ⟨t,x,y,l,e,h5,h6⟩:=g4 u hu
    exact ⟨t,x,y,l,e,t24.sqT h5,mal _ h6⟩
   ·rw [List.mem_singleton.mp hu]
    exact ⟨T,_,_,l',rfl,SqT.of upd_same,by simp⟩
 obtain ⟨ls,g1,g2,g3,g4⟩:=hR
 rw [xl,List.take_length] at g1
 exact k D us ls H2 s2 hD hD2 g1 g2 g3 g4
section
variable {σ:L2.St} {H:Hp} {t:TE} {ta tb:TE} {as:TA}
theorem zj1 {Q:List V->Hp->Prop} (h:t σ H fun x H1=>as σ H1 fun xs H2=>Q (x::xs) H2):tCons t as σ H Q:=h
theorem zj7 {C:Addr} {sp:Sp} {E:L2.St->XK} {Q:VK} (h:as σ H fun vs H1=>∀ y dx,H1 y=none->H1 dx=none->dx ≠ y->sp (.ref y::vs) (upd (upd H1 dx (.own y)) y (.ins C dx [])) (fun v H2=>v=.non/\Q (.ref y) H2) (E σ)):z73 C sp E as σ H Q:=h
end
theorem zb0 {K:PySem.W.Frag} {C B:Addr} {E:L2.St->XK} {σ:L2.St} {H:Hp} {kh:Addr} {xs:List V} {b:Bk} {Q:VK} {i a1 a2 a3:Nat} {vs:List Nat} (hσ:σ[i]?=some (some (.ref kh)))
  (w0:∀ x y z:V,wipe ((((wipe σ vs).set a1 (some x)).set a2 (some y)).set a3 (some z)) vs=wipe σ vs)
  (w1:∀ x y z:V,((((wipe σ vs).set a1 (some x)).set a2 (some y)).set a3 (some z))[a1]?=some (some x)) (w2:∀ x y z:V,((((wipe σ vs).set a1 (some x)).set a2 (some y)).set a3 (some z))[a2]?=some (some y)) (w3:∀ x y z:V,((((wipe σ vs).set a1 (some x)).set a2 (some y)).set a3 (some z))[a3]?=some (some z))
  (hkh:H kh=some (.lst xs)) (hb:KdAll K H [] xs b) (ok:b.Ok) (k:∀ y H',SB [] H H'->H y=none->BkA K C H' (.ref y) b->Q (.ref y) H') :
  z73 C (z2z K C B) E (tCons (tLc (iList K (tVar i)) (gTup K 3 (gCons (gName a1) (gCons (gName a2) (gCons (gName a3) gNil)))) tYes (tTup (tCons (tVar a1) (tCons (tVar a2) (tCons (tCB (z9z K) (tCons (tVar a3) tNil)) tNil)))) vs) tNil) σ H Q:=by
 refine zj7 (zj1 (zg3 hσ w0 w1 w2 w3 hkh hb ok.len fun D us ls H' s nD hD hK _ _ _=>?_))
 exact zbl hD hK ok fun y H2 s2 ny hbk=>k y H2 (s.trans s2) (s.dom _ ny) hbk
section
variable {X:Cx}
theorem zce {i:Nat} {y:PySem.Str} {py:Pos} {kx vx tg iter:Expr} {ifs:List Expr} {scope:Scope} {own:List (PySem.Str × Nat)} {pos spos:Pos} {wi:TI} {g:TG} {tt:TT} {tk tv:TE} (hc:X.calm=true) (hN:X.N.Nodup) (hy:X.N[i]?=some y) (hyl:X.env.scope.names.lookup y=some .local)
  (hsw:swapsWith (.DictComp kx vx [⟨tg,iter,ifs,0⟩] scope pos) (some (.Name y py)) spos.line X.env=pure true) (hi:PI X tg iter wi) (ok:BlkOk X.N X.env.scope scope own)
  (hg:∀ (s:Shared) (H:Hp) (C:Addr) (cl:List (PySem.Str × Addr)) (fp:List Addr),L2.PG (X.blk s H scope (compEnvC scope cl C X.env) fp) tg g) (ht:∀ (s:Shared) (H:Hp) (C:Addr) (cl:List (PySem.Str × Addr)) (fp:List Addr),L2.PTs (X.blk s H scope (compEnvC scope cl C X.env) fp) ifs tt)
  (hk:∀ (s:Shared) (H:Hp) (C:Addr) (cl:List (PySem.Str × Addr)) (fp:List Addr),L2.PE (X.blk s H scope (compEnvC scope cl C X.env) fp) kx tk)
  (he:∀ (s:Shared) (H:Hp) (C:Addr) (cl:List (PySem.Str × Addr)) (fp:List Addr),L2.PE (X.blk s H scope (compEnvC scope cl C X.env) fp) vx tv) (hs:∀ x,foldedSetIterable iter X.env x=pure x:=by intro _; rfl) :
  PS X (.Assign [.Name y py] (.DictComp kx vx [⟨tg,iter,ifs,0⟩] scope pos) spos) (tAsg (tDc wi g tt tk tv (own.map (·.2))) (gName i)):=by
 refine ⟨fun pins s σ H D I h=>?_⟩
 rw [exec_Assign_Name_used _ _ _ _ hsw]
 refine wpAny_bind (wpAny_standAt (wpAny_bind ?_))
 show wpAny _ X.A (do let _ <- comprehension (.DictComp kx vx [⟨tg,iter,ifs,0⟩] scope pos) scope X.env (firstIterPos [⟨tg,iter,ifs,0⟩] pos) newDict false (eval iter X.env) (some (assign (.Name y py) X.env))) _ _ s
 have h:tDc wi g tt tk tv (own.map (·.2)) σ H (fun x H1=>gName i x σ H1 D.nx):=h
 refine wpAny_bind (thn (dc_core (Qf:=fun _ s'=>SP X pins D .next s') hc hN I hi ok hg ht hk he hs h fun L C s' m H' I' q hn f=>?_) fun _ s' hq=>wpAny_pure (wpAny_pure hq))
 show wpAny _ _ (assign (.Name y py) X.env (.ref L)) _ _ _
 refine wpAny_assign_Name (store_ok2 (v:=V.ref L) I' hN hy (.inl hyl) rfl (fun s2 I2 ⟨a,sb,ha⟩=>?_) (.inr hyl))
 obtain ⟨f0,f1,f2,f3,f4,f5⟩:=f
 have haC:C ≠ a:=by
  rcases ha with z | z
  ·rw [z]; exact f1
  ·exact fun e=>f4 y a z e.symm
 refine ⟨m,hn.sameBut sb haC,fun h3 sb3=>?_⟩
 exact ⟨_,H',I2.turned (t':=s2.toks) (fun b o hb e=>(sb3.2 b hb).trans e) f0 f1 f3 f4 f5,q⟩
theorem zcx {kx vx:Expr} {gs:List Comprehension} {scope:Scope} {pos py:Pos} {y:PySem.Str} {l:Nat} {env:Env} (hk:env.scope.kind=.function) (hy:env.scope.names.lookup y=some .local) (hl:(py.line == pos.line)=true)
  (ha:(scope.names.any fun (n,k)=>n == y&&(k == .local || k == .cell))=false):swapsWith (.DictComp kx vx gs scope pos) (some (.Name y py)) l env=pure true:=by
 have ky:env.kindOf y=some .local:=hy
 have hb:env.blockKind=.function:=by unfold Env.blockKind; rw [hk]; rfl
 unfold swapsWith
 simp only [hb,ky,ha,Expr.pos,hl]
 rfl
end
def adj (b:Bk) (n:Str):List Str:=match b.get n with
 | some k=>ledR k.rs
 | none=>[]
inductive EndK (b:Bk):Str->Prop
 | mk {n:Str}:(∀ k,k ∈ adj b n->EndK b k)->EndK b n
inductive Rch (b:Bk):Str->Str->Prop
 | one {n k:Str}:k ∈ adj b n->Rch b n k
 | step {n m k:Str}:Rch b n m->k ∈ adj b m->Rch b n k
section
variable {b:Bk}
theorem z33 {n:Str} {k:Kd} (h:b.get n=some k):adj b n=ledR k.rs:=by unfold adj; rw [h]
theorem z0k (ok:b.Ok) {n k:Str} (h:k ∈ adj b n):k ∈ b.names:=by
 unfold adj at h
 split at h
 ·rename_i kd e
  exact ok.led (Bk.get_some e).1 k h
 ·cases h
theorem z0p {k:Kd} (ok:b.Ok) (hk:k ∈ b):adj b k.n=ledR k.rs:=z33 (Bk.get_self ok.nd hk)
theorem Rch.trans {n m k:Str} (h:Rch b n m) (g:Rch b m k):Rch b n k:=by
 induction g with
 | one e=>exact .step h e
 | step _ e ih=>exact .step ih e
theorem Rch.cons {n m k:Str} (h:m ∈ adj b n) (g:Rch b m k):Rch b n k:=(Rch.one h).trans g
theorem Rch.split {n k:Str} (h:Rch b n k):∃ m,m ∈ adj b n/\(m=k\/Rch b m k):=by
 induction h with
 | one e=>exact ⟨_,e,.inl rfl⟩
 | step _ e ih =>
  obtain ⟨m,hm,h⟩:=ih
  refine ⟨m,hm,.inr ?_⟩
  rcases h with h | h
  ·rw [h]; exact .one e
  ·exact .step h e
theorem Rch.mem (ok:b.Ok) {n k:Str} (h:Rch b n k):k ∈ b.names:=by
 cases h with
 | one e=>exact z0k ok e
 | step _ e=>exact z0k ok e
theorem EndK.next {n k:Str} (h:EndK b n) (e:k ∈ adj b n):EndK b k:=by
 cases h with
 | mk h=>exact h k e
theorem EndK.rch {n k:Str} (h:EndK b n) (g:Rch b n k):EndK b k:=by
 induction g with
 | one e=>exact h.next e
 | step _ e ih=>exact ih.next e
theorem EndK.noring {n:Str} (h:EndK b n):¬ Rch b n n:=by
 induction h with
 | mk h ih =>
  intro g
  obtain ⟨m,hm,e⟩:=g.split
  refine ih m hm ?_
  rcases e with e | e
  ·rw [e]; exact g
  ·exact .step e hm
/-- the walk that never ends -/
theorem zd0 {n:Str} (h:¬ EndK b n):∃ k,k ∈ adj b n/\¬ EndK b k:=Classical.byContradiction fun g=>h (.mk fun k hk=>Classical.byContradiction fun z=>g ⟨k,hk,z⟩)
theorem zfp (ok:b.Ok) {n:Str} (hn:n ∈ b.names) (h:¬ EndK b n):∃ r,Rch b r r/\(r=n\/Rch b n r):=by
 have ch:∀ x:{ x:Str // ¬ EndK b x },∃ y:{ y:Str // ¬ EndK b y },y.1 ∈ adj b x.1:=fun x=>by
  obtain ⟨k,h1,h2⟩:=zd0 x.2
  exact ⟨⟨k,h2⟩,h1⟩
 let nx:{ x:Str // ¬ EndK b x }->{ x:Str // ¬ EndK b x }:=fun x=>(ch x).choose
 have hnx:∀ x,(nx x).1 ∈ adj b x.1:=fun x=>(ch x).choose_spec
 let w:Nat->{ x:Str // ¬ EndK b x }:=fun i=>Nat.rec ⟨n,h⟩ (fun _ x=>nx x) i
 have ws:∀ i,(w (i+1)).1 ∈ adj b (w i).1:=fun i=>hnx (w i)
 have wm:∀ i,(w i).1 ∈ b.names:=fun i=>by
  cases i with
  | zero=>exact hn
  | succ i=>exact z0k ok (ws i)
 have wr:∀ i d,Rch b (w i).1 (w (i+d+1)).1:=by
  intro i d
  induction d with
  | zero=>exact .one (ws i)
  | succ d ih=>exact .step ih (ws (i+d+1))
 have rep:∃ i j,i < j/\(w i).1=(w j).1:=by
  refine Classical.byContradiction fun z=>?_
  have nd:((List.range (b.names.length+1)).map fun i=>(w i).1).Nodup:=by
   refine List.pairwise_map.mpr (List.Pairwise.imp ?_ List.pairwise_lt_range)
   intro i j hij e
   exact z ⟨i,j,hij,e⟩
  have:=nd.length_le_of_subset (l₂:=b.names) fun x hx=>by
   obtain ⟨i,_,rfl⟩:=List.mem_map.mp hx
   exact wm i
  rw [List.length_map,List.length_range] at this
  omega
 obtain ⟨i,j,hij,e⟩:=rep
 refine ⟨(w i).1,?_,?_⟩
 ·have:=wr i (j-i-1)
  rw [show i+(j-i-1)+1=j by omega,<- e] at this
  exact this
 ·cases i with
  | zero=>exact .inl rfl
  | succ i =>
   have:=wr 0 i
   rw [show 0+i+1=i+1 by omega] at this
   exact .inr this
theorem z66 (ok:b.Ok) {n:Str} (hn:n ∈ b.names):¬ EndK b n ↔ ∃ r,Rch b r r/\(r=n\/Rch b n r):=by
 refine ⟨zfp ok hn,fun ⟨r,h1,h2⟩ h=>?_⟩
 rcases h2 with h2 | h2
 ·rw [h2] at h1; exact h.noring h1
 ·exact (h.rch h2).noring h1
end
inductive LedAll (K:PySem.W.Frag) (H:Hp):List (Key × V)->Bk->Prop
 | nil:LedAll K H [] []
 | cons {l:Addr} {ss:List Str} {k:Kd} {kvs:List (Key × V)} {b:Bk}:H l=some (.lst (ss.map V.str))->SrtOf ss (ledR k.rs)->LedAll K H kvs b->LedAll K H ((Sum.inr k.n,.ref l)::kvs) (k::b)
section
variable {K:PySem.W.Frag} {H H':Hp}
theorem LedAll.length:∀ {kvs:List (Key × V)} {b:Bk},LedAll K H kvs b->kvs.length=b.length
 | _,_,.nil=>rfl
 | _,_,.cons _ _ t=>congrArg (·+1) t.length
theorem LedAll.keep (h:∀ l xs,H l=some (.lst xs)->H' l=some (.lst xs)):∀ {kvs:List (Key × V)} {b:Bk},LedAll K H kvs b->LedAll K H' kvs b
 | _,_,.nil=>.nil
 | _,_,.cons a s t=>.cons (h _ _ a) s (LedAll.keep h t)
theorem LedAll.append:∀ {kvs kws:List (Key × V)} {b c:Bk},LedAll K H kvs b->LedAll K H kws c->LedAll K H (kvs++kws) (b++c)
 | _,_,_,_,.nil,h=>h
 | _,_,_,_,.cons a s t,h=>.cons a s (t.append h)
theorem LedAll.val {n:Str} {k:Kd}:∀ {kvs:List (Key × V)} {b:Bk},LedAll K H kvs b->b.get n=some k->∃ l ss,valV kvs (Sum.inr n)=some (.ref l)/\H l=some (.lst (ss.map V.str))/\SrtOf ss (ledR k.rs)
 | _,_,.nil,e=>by simp [Bk.get] at e
 | _,_,.cons (l:=l) (ss:=ss) (k:=kk) (b:=bb) a s t,e=>by
  by_cases h:kk.n=n
  ·have e':kk=k:=by
    have:Bk.get (kk::bb) n=some kk:=by simp [Bk.get,h]
    rw [this] at e; exact Option.some.inj e
   subst e'
   exact ⟨l,ss,valV_pos (by rw [h]),a,s⟩
  ·have e':Bk.get bb n=some k:=by
    unfold Bk.get at e
    rw [List.find?_cons_of_neg (by simpa using h)] at e
    exact e
   obtain ⟨l',ss',h1,h2,h3⟩:=t.val e'
   exact ⟨l',ss',by rw [valV_neg (fun z=>h (Sum.inr.inj z))]; exact h1,h2,h3⟩
theorem LedAll.get:∀ {kvs:List (Key × V)} {b:Bk} {i:Nat} {p:Key × V},LedAll K H kvs b->kvs[i]?=some p->∃ k,b[i]?=some k/\p.1=Sum.inr k.n
 | _,_,_,_,.nil,e=>by simp at e
 | _,_,0,_,.cons a s t,e=>by
  obtain rfl:=Option.some.inj e
  exact ⟨_,rfl,rfl⟩
 | _,_,i+1,_,.cons a s t,e=>t.get (i:=i) e
end
/-- what leads into es only -/
def into (b:Bk) (es:List Str) (n:Str):Bool:=decide (n ∉ es)&&(adj b n).all fun k=>decide (k ∈ es)
def z4e (K:PySem.W.Frag):Sp:=fun vs H Q _=>∃ (d e:Addr) (b:Bk) (es:List Str) (kvs:List (Key × V)),vs=[.ref d,.ref e]/\H d=some (.dK kvs)/\LedAll K H kvs b/\H e=some (.lst (es.map V.str))/\b.Ok/\∀ (l:Addr) (H':Hp),SB [] H H'->H l=none->H' l=some (.lst ((b.names.filter (into b es)).map V.str))->Q (.ref l) H'
def z4x (K:PySem.W.Frag) (C N:Addr):Sp:=fun vs H Q E=>∃ (v:V) (b:Bk),vs=[v]/\BkA K C H v b/\b.Ok/\∀ (l:Addr) (ss:List Str) (H':Hp),SB [] H H'->H l=none->H' l=some (.lst (ss.map V.str))->sortedS ss=true->ss.Nodup->(∀ n,n ∈ ss ↔ n ∈ b.names/\¬ EndK b n)->Q (.ref l) H'
theorem SB.unlock {H H':Hp} {d:Addr} {od:Obj} {u:HO} (s:SB [] (upd H d (.frz od u)) H') (hd:H d=some u) (n1:∀ xs,u ≠ .tup xs) (n2:∀ o v,u ≠ .frz o v):SB [] H (upd H' d u):=by
 refine ⟨fun b o e _=>?_,fun b xs e=>?_,fun b o v e=>?_,fun b e=>?_⟩
 ·by_cases z:b=d
  ·rw [z,upd_same]; rw [z,hd] at e; exact e
  ·rw [upd_ne z]; exact s.keep b o (by rw [upd_ne z]; exact e) nmn
 ·have z:b ≠ d:=fun z=>by rw [z,hd] at e; exact n1 _ (Option.some.inj e)
  rw [upd_ne z]; exact s.tups b xs (by rw [upd_ne z]; exact e)
 ·have z:b ≠ d:=fun z=>by rw [z,hd] at e; exact n2 _ _ (Option.some.inj e)
  rw [upd_ne z]; exact s.frzs b o v (by rw [upd_ne z]; exact e)
 ·have z:b ≠ d:=fun z=>by rw [z,upd_same] at e; cases e
  rw [upd_ne z] at e
  have:=s.dom b e
  rwa [upd_ne z] at this
theorem zfl {ss ks:List Str} (so:SrtOf ss ks) (p:Str->Bool):ss.all p=ks.all p:=by
 rw [Bool.eq_iff_iff,List.all_eq_true,List.all_eq_true]
 exact ⟨fun h x hx=>h x ((so.mem x).mpr hx),fun h x hx=>h x ((so.mem x).mp hx)⟩
theorem zj8 {H:Hp} {d:Addr} {kvs:List (Key × V)} {n:Str} {v:V} (h:L2.Rd H d (.dK kvs)) (e:valV kvs (Sum.inr n)=some v):DGet H d (.str n) (some v):=.inl ⟨kvs,Sum.inr n,h,rfl,e.symm⟩
theorem LedAll.sb {K:PySem.W.Frag} {H H':Hp} {ps:List Addr} (e:SB ps H H'):∀ {kvs:List (Key × V)} {b:Bk},LedAll K H kvs b->(∀ p ∈ kvs,∀ q ∈ ps,p.2 ≠ .ref q)->LedAll K H' kvs b
 | _,_,.nil,_=>.nil
 | _,_,.cons a s t,h=>.cons (e.keep _ _ a fun z=>h _ mcs _ z rfl) s (LedAll.sb e t fun p hp=>h p (mcm _ hp))
theorem LedAll.ne {K:PySem.W.Frag} {H:Hp} {q:Addr} (hq:H q=none):∀ {kvs:List (Key × V)} {b:Bk},LedAll K H kvs b->∀ p ∈ kvs,p.2 ≠ .ref q
 | _,_,.nil,p,hp=>by cases hp
 | _,_,.cons a s t,p,hp=>by
  rcases List.mem_cons.mp hp with e | e
  ·rw [e]
   intro z
   rw [V.ref.inj z] at a
   rw [a] at hq; cases hq
  ·exact LedAll.ne hq t p e
theorem LedAll.keys {K:PySem.W.Frag} {H:Hp}:∀ {kvs:List (Key × V)} {b:Bk},LedAll K H kvs b->kvs.map (·.1)=b.names.map Sum.inr
 | _,_,.nil=>rfl
 | _,_,.cons a s t=>by rw [List.map_cons,LedAll.keys t]; rfl
theorem zar {b:Bk} (ok:b.Ok) {es:List Str} (h:b.names.filter (into b es)=[]) {n:Str} (e:EndK b n):n ∈ b.names->n ∈ es:=by
 induction e with
 | @mk n _ ih =>
  intro hn
  refine Classical.byContradiction fun z=>?_
  have:n ∈ b.names.filter (into b es):=List.mem_filter.mpr ⟨hn,by
   unfold into
   rw [Bool.and_eq_true,decide_eq_true_eq,List.all_eq_true]
   exact ⟨z,fun k hk=>decide_eq_true (ih k hk (z0k ok hk))⟩⟩
  rw [h] at this; cases this
section
variable {J:It} {n:Nat} {G:Hp->Prop} {Y:Nat->Hp->V->Hp->Prop}
theorem zfv (w:Walk J n G Y) {g:TG} {tt:TT} {tk tv:TE} {vs:List Nat} {σ:L2.St} {H:Hp} {D:Addr} {Qd:Hp->Prop} (hD:H D=none) (hn:n < sizeLine) (R:Nat->List (Key × V)->Hp->Prop) (h0:R 0 [] H) (hG:∀ H2,SB [] H H2->G H2)
  (st:∀ i us H2 H3,SB [D] H2 H3->R i us H2->R i us H3)
  (turn:∀ (Pv:Hp->Prop) i x H2 H' kvs,i < n->SB [] H H2->Y i H2 x H'->R i kvs H2->kvs.length<=i->H2 D=some (.dK kvs)->(∀ k z H5,SB [] H2 H5->R (i+1) (putK kvs k z) H5->∃ kvs k',kV k=kV k'/\H5 D=some (.dK kvs)/\kvs.length < sizeLine/\Pv (upd H5 D (.dK (putK kvs k' z)))) ->
   (∀ H4,SB [] H2 H4->R (i+1) kvs H4->Pv H4)->g x (wipe σ vs) H' fun σ2 H3=>wipe σ2 vs=wipe σ vs/\tt σ2 H3 fun b H4 =>
    if b=true then tk σ2 H4 fun y H5=>tv σ2 H5 fun z H6=>∃ kvs k,y=kV k/\H6 D=some (.dK kvs)/\kvs.length < sizeLine/\Pv (upd H6 D (.dK (putK kvs k z))) else Pv H4)
  (done:∀ kvs H2,SB [] H H2->H2 D=some (.dK kvs)->R n kvs H2->kvs.length<=n->Qd H2) :
  ∃ W:Nat->Nat->Hp->Prop,(∃ m,W 0 m (upd H D (.dK [])))/\∀ i m H,W i m H ->
   (J.stop i H/\Qd H)\/(J.go i H/\∃ Nx:Hp->Prop,(∀ H',Nx H'->∃ m',m' < m/\W (i+1) m' H')/\∀ x H',J.yld i H x H'->g x (wipe σ vs) H' fun σ2 H2=>wipe σ2 vs=wipe σ vs/\tt σ2 H2 fun b H3 =>
    if b=true then tk σ2 H3 fun y H4=>tv σ2 H4 fun z H5=>∃ kvs k,y=kV k/\H5 D=some (.dK kvs)/\kvs.length < sizeLine/\Nx (upd H5 D (.dK (putK kvs k z))) else Nx H3):=by
 refine lcG (body:=fun Nx x H'=>g x (wipe σ vs) H' fun σ2 H2=>wipe σ2 vs=wipe σ vs/\tt σ2 H2 fun b H3 =>
    if b=true then tk σ2 H3 fun y H4=>tv σ2 H4 fun z H5=>∃ kvs k,y=kV k/\H5 D=some (.dK kvs)/\kvs.length < sizeLine/\Nx (upd H5 D (.dK (putK kvs k z))) else Nx H3) w (fun i H2=>SB [D] H H2/\∃ kvs,H2 D=some (.dK kvs)/\R i kvs H2/\kvs.length<=i)
  ⟨SB.new hD _,[],upd_same,st _ _ _ _ (SB.new hD _) h0,Nat.le_refl _⟩ (fun i H2 _ h=>hG H2 (h.1.drop hD)) (fun i x H2 H' hi h y=>?_) (fun H2 h=>?_)
 ·obtain ⟨s2,kvs,hD2,hR,hl⟩:=h
  refine turn _ i x H2 H' kvs hi (s2.drop hD) y hR hl hD2 (fun k z H5 s5 r5=>?_) (fun H4 s4 r4=>⟨s2.trans s4.nil,kvs,s4.keep _ _ hD2 nmn,r4,by omega⟩)
  have hD5:=s5.keep _ _ hD2 nmn
  refine ⟨kvs,k,rfl,hD5,by omega,(s2.trans s5.nil).trans (SB.setD hD5 (by simp) _),_,upd_same,st _ _ _ _ (SB.setD hD5 (by simp) _) r5,?_⟩
  have:=length_putK kvs k z
  omega
 ·obtain ⟨s2,kvs,hD2,hR,hl⟩:=h
  exact done kvs H2 (s2.drop hD) hD2 hR hl
end
theorem zal {b:Bk} (nd:b.names.Nodup) {i:Nat} {k:Kd} (ek:b[i]?=some k):k.n ∉ Bk.names (b.take i):=by
 have e:b=b.take i++k::b.drop (i+1):=by
  have hl:i < b.length:=(List.getElem?_eq_some_iff.mp ek).1
  have:=List.drop_eq_getElem_cons hl
  rw [(List.getElem?_eq_some_iff.mp ek).2] at this
  rw [<- this,List.take_append_drop]
 have h:b.names=Bk.names (b.take i)++k.n::Bk.names (b.drop (i+1)):=by
  conv=>lhs; rw [e]
  rw [Bk.names,List.map_append]; rfl
 rw [h] at nd
 exact fun z=>(List.nodup_append.mp nd).2.2 _ z _ mcs rfl
inductive Wlk (b:Bk) (n:Str):List Sx->Str->Prop
 | nil:Wlk b n [] n
 | step {p:List Sx} {m:Str} {kd:Kd} {s:Sx}:Wlk b n p m->b.get m=some kd->s ∈ kd.steps->Wlk b n (p++[s]) s.k
section
variable {b:Bk} {K:PySem.W.Frag} {H H':Hp} {F F':Addr->Prop} {n k h:Str} {l:Addr} {A B A' B':Nat} {ps:List Addr}
theorem z8c {m:Str} {kd:Kd} {s:Sx} (e:b.get m=some kd) (hs:s ∈ kd.steps):s.k ∈ adj b m:=by
 rw [z33 e,<- Kd.steps_kinds]
 exact List.mem_map.mpr ⟨s,hs,rfl⟩
theorem Wlk.rch {p:List Sx} (w:Wlk b n p k):p ≠ []->Rch b n k:=by
 induction w with
 | nil=>exact fun h=>absurd rfl h
 | @step p m kd s w e hs ih =>
  intro _
  by_cases hp:p=[]
  ·have hm:m=n:=by
    have:∀ (q:List Sx) (k:Str),Wlk b n q k->q=[]->k=n:=fun q k w z=>by
     induction w with
     | nil=>rfl
     | step _ _ _ _=>simp at z
    exact this _ _ w hp
   subst hm
   exact .one (z8c e hs)
  ·exact .step (ih hp) (z8c e hs)
/-- l holds a walk from n to k,of at least A and at most B steps -/
def Wy (K:PySem.W.Frag) (H:Hp) (F:Addr->Prop) (b:Bk) (n:Str) (A B:Nat) (k:Str) (l:Addr):Prop:=∃ us q,H l=some (.lst us)/\Bears K H Sx.st us q/\Wlk b n q k/\A<=q.length/\q.length<=B/\F l
theorem Wy.sb (e:SB ps H H') (hn:∀ p ∈ ps,¬ F p\/∀ us,H p ≠ some (.lst us)):Wy K H F b n A B k l->Wy K H' F b n A B k l:=by
 rintro ⟨us,q,h1,h2,h3,h4,h5,h6⟩
 exact ⟨us,q,e.keep _ _ h1 (fun z=>(hn _ z).elim (fun y=>y h6) fun y=>y _ h1),h2.sb e Sx.noList_st,h3,h4,h5,h6⟩
theorem Wy.imp (hA:A'<=A) (hB:B<=B') (hF:∀ l us,H l=some (.lst us)->F l->F' l):Wy K H F b n A B k l->Wy K H F' b n A' B' k l:=by
 rintro ⟨us,q,h1,h2,h3,h4,h5,h6⟩
 exact ⟨us,q,h1,h2,h3,by omega,by omega,hF _ _ h1 h6⟩
inductive WyD (K:PySem.W.Frag) (H:Hp) (F:Addr->Prop) (b:Bk) (n:Str) (A B:Nat):List (Key × V)->List Str->Prop
 | nil:WyD K H F b n A B [] []
 | cons {k:Str} {l:Addr} {kvs:List (Key × V)} {ks:List Str}:Wy K H F b n A B k l->WyD K H F b n A B kvs ks->WyD K H F b n A B ((Sum.inr k,.ref l)::kvs) (k::ks)
theorem WyD.map (f:∀ k l,Wy K H F b n A B k l->Wy K H' F' b n A' B' k l):∀ {kvs:List (Key × V)} {ks:List Str},WyD K H F b n A B kvs ks->WyD K H' F' b n A' B' kvs ks
 | _,_,.nil=>.nil
 | _,_,.cons h t=>.cons (f _ _ h) (WyD.map f t)
theorem WyD.sb {kvs:List (Key × V)} {ks:List Str} (h:WyD K H F b n A B kvs ks) (e:SB ps H H') (hn:∀ p ∈ ps,¬ F p\/∀ us,H p ≠ some (.lst us)):WyD K H' F b n A B kvs ks:=h.map fun _ _=>Wy.sb e hn
theorem WyD.imp {kvs:List (Key × V)} {ks:List Str} (h:WyD K H F b n A B kvs ks) (hA:A'<=A) (hB:B<=B') (hF:∀ l us,H l=some (.lst us)->F l->F' l):WyD K H F' b n A' B' kvs ks:=h.map fun _ _=>Wy.imp hA hB hF
theorem WyD.append:∀ {kvs kws:List (Key × V)} {ks js:List Str},WyD K H F b n A B kvs ks->WyD K H F b n A B kws js->WyD K H F b n A B (kvs++kws) (ks++js)
 | _,_,_,_,.nil,h=>h
 | _,_,_,_,.cons a t,h=>.cons a (t.append h)
theorem WyD.length:∀ {kvs:List (Key × V)} {ks:List Str},WyD K H F b n A B kvs ks->kvs.length=ks.length
 | _,_,.nil=>rfl
 | _,_,.cons _ t=>congrArg (·+1) t.length
theorem WyD.keys:∀ {kvs:List (Key × V)} {ks:List Str},WyD K H F b n A B kvs ks->kvs.map (·.1)=ks.map Sum.inr
 | _,_,.nil=>rfl
 | _,_,.cons _ t=>by rw [List.map_cons,t.keys]; rfl
theorem WyD.val:∀ {kvs:List (Key × V)} {ks:List Str},WyD K H F b n A B kvs ks->k ∈ ks->∃ l,valV kvs (Sum.inr k)=some (.ref l)/\Wy K H F b n A B k l
 | _,_,.nil,h=>by cases h
 | _,_,.cons (k:=j) (l:=l) a t,h=>by
  by_cases e:j=k
  ·subst e
   exact ⟨l,valV_pos rfl,a⟩
  ·obtain ⟨l',h1,h2⟩:=t.val ((List.mem_cons.mp h).resolve_left fun z=>e z.symm)
   exact ⟨l',by rw [valV_neg (fun z=>e (Sum.inr.inj z))]; exact h1,h2⟩
theorem WyD.none:∀ {kvs:List (Key × V)} {ks:List Str},WyD K H F b n A B kvs ks->k ∉ ks->valV kvs (Sum.inr k)=none
 | _,_,.nil,h=>rfl
 | _,_,.cons (k:=j) a t,h=>by
  rw [valV_neg (fun z=>h (by rw [<- Sum.inr.inj z]; exact mcs))]
  exact t.none fun z=>h (mcm _ z)
theorem WyD.put {kvs:List (Key × V)} {ks:List Str} (h:WyD K H F b n A B kvs ks) (hk:k ∉ ks) (w:Wy K H F b n A B k l):WyD K H F b n A B (putK kvs (Sum.inr k) (.ref l)) (ks++[k]):=by
 rw [z1i fun p hp z=>?_]
 ·exact h.append (.cons w .nil)
 ·have:p.1 ∈ ks.map (Sum.inr (α:=Int)):=by rw [<- h.keys]; exact List.mem_map.mpr ⟨p,hp,rfl⟩
  rw [z] at this
  obtain ⟨m,hm,e⟩:=List.mem_map.mp this
  exact hk (by rw [<- Sum.inr.inj e]; exact hm)
/-- heads with their walks -/
inductive HdAll (K:PySem.W.Frag) (H:Hp) (F:Addr->Prop) (b:Bk) (n:Str) (A B:Nat):List V->List Str->Prop
 | nil:HdAll K H F b n A B [] []
 | cons {k:Str} {t l:Addr} {vs:List V} {ks:List Str}:SqT K H t [.str k,.ref l]->Wy K H F b n A B k l->HdAll K H F b n A B vs ks->HdAll K H F b n A B (.ref t::vs) (k::ks)
theorem HdAll.sb (e:SB ps H H') (hn:∀ p ∈ ps,¬ F p\/∀ us,H p ≠ some (.lst us)):∀ {vs:List V} {ks:List Str},HdAll K H F b n A B vs ks->HdAll K H' F b n A B vs ks
 | _,_,.nil=>.nil
 | _,_,.cons a w t=>.cons (e.sqT a) (w.sb e hn) (HdAll.sb e hn t)
theorem HdAll.imp (hA:A'<=A) (hB:B<=B') (hF:∀ l us,H l=some (.lst us)->F l->F' l):∀ {vs:List V} {ks:List Str},HdAll K H F b n A B vs ks->HdAll K H F' b n A' B' vs ks
 | _,_,.nil=>.nil
 | _,_,.cons a w t=>.cons a (w.imp hA hB hF) (HdAll.imp hA hB hF t)
theorem HdAll.append:∀ {vs ws:List V} {ks js:List Str},HdAll K H F b n A B vs ks->HdAll K H F b n A B ws js->HdAll K H F b n A B (vs++ws) (ks++js)
 | _,_,_,_,.nil,h=>h
 | _,_,_,_,.cons a w t,h=>.cons a w (t.append h)
theorem HdAll.length:∀ {vs:List V} {ks:List Str},HdAll K H F b n A B vs ks->vs.length=ks.length
 | _,_,.nil=>rfl
 | _,_,.cons _ _ t=>congrArg (·+1) t.length
theorem HdAll.get:∀ {vs:List V} {ks:List Str} {i:Nat} {v:V},HdAll K H F b n A B vs ks->vs[i]?=some v->∃ k t l,ks[i]?=some k/\v=.ref t/\SqT K H t [.str k,.ref l]/\Wy K H F b n A B k l
 | _,_,_,_,.nil,e=>by simp at e
 | _,_,0,_,.cons a w t,e=>by
  obtain rfl:=Option.some.inj e
  exact ⟨_,_,_,rfl,rfl,a,w⟩
 | _,_,i+1,_,.cons a w t,e=>t.get (i:=i) e
/-- within a round of ways_from: gs are the kinds newly found,with their heads in G -/
structure WSt (K:PySem.W.Frag) (H H2:Hp) (b:Bk) (n:Str) (Wd Fa G:Addr) (vs:List V) (hs ks gs:List Str):Prop where
 sb:SB [] H H2
 wd:∃ kvs,H2 Wd=some (.dK kvs)/\WyD K H2 (fun l=>H l=none/\l ≠ G) b n 1 (ks.length+1) kvs (ks++gs)
 g:∃ ws,H2 G=some (.lst ws)/\HdAll K H2 (fun l=>H l=none/\l ≠ G) b n 1 (ks.length+1) ws gs
 fa:H2 Fa=some (.lst vs)
 hd:HdAll K H2 (fun l=>H l=none/\l ≠ G) b n 0 ks.length vs hs
 nd:(ks++gs).Nodup
 rc:∀ x ∈ ks++gs,Rch b n x
theorem WSt.keep {H2 H3:Hp} {Wd Fa G:Addr} {vs:List V} {hs ks gs:List Str} (h:WSt K H H2 b n Wd Fa G vs hs ks gs) (s:SB [] H2 H3):WSt K H H3 b n Wd Fa G vs hs ks gs:=by
 obtain ⟨h1,⟨kvs,h2,h3⟩,⟨ws,h4,h5⟩,h6,h7,h8,h9⟩:=h
 have z:∀ p ∈ ([]:List Addr),¬ (fun l=>H l=none/\l ≠ G) p\/∀ us,H2 p ≠ some (.lst us):=fun _ y=>nomatch y
 exact ⟨h1.trans s,⟨kvs,s.keep _ _ h2 nmn,h3.sb s z⟩,⟨ws,s.keep _ _ h4 nmn,h5.sb s z⟩,s.keep _ _ h6 nmn,h7.sb s z,h8,h9⟩
/-- a kind more -/
theorem WSt.add {H2:Hp} {Wd Fa G a T:Addr} {vs ws:List V} {hs ks gs:List Str} {kvs:List (Key × V)} {k:Str} (h:WSt K H H2 b n Wd Fa G vs hs ks gs) (nW:H Wd=none) (nG:H G=none) (FG:Fa ≠ G)
  (hW:H2 Wd=some (.dK kvs)) (hk:k ∉ ks++gs) (r:Rch b n k) (w:Wy K H2 (fun l=>H l=none/\l ≠ G) b n 1 (ks.length+1) k a) (hT:upd H2 Wd (.dK (putK kvs (Sum.inr k) (.ref a))) T=none)
  (hG:upd (upd H2 Wd (.dK (putK kvs (Sum.inr k) (.ref a)))) T (.tup [.str k,.ref a]) G=some (.lst ws)) :
  WSt K H (upd (upd (upd H2 Wd (.dK (putK kvs (Sum.inr k) (.ref a)))) T (.tup [.str k,.ref a])) G (.lst (ws++[.ref T]))) b n Wd Fa G vs hs ks (gs++[k]):=by
 obtain ⟨h1,⟨kvs',h2,h3⟩,⟨ws',h4,h5⟩,h6,h7,h8,h9⟩:=h
 rw [hW] at h2
 injection h2 with h2
 injection h2 with h2
 subst h2
 have t1:SB [Wd] H2 (upd H2 Wd (.dK (putK kvs (Sum.inr k) (.ref a)))):=SB.setD hW (by simp) _
 have t2:SB [Wd] _ (upd (upd H2 Wd (.dK (putK kvs (Sum.inr k) (.ref a)))) T (.tup [.str k,.ref a])):=SB.new hT _
 have t12:=t1.trans t2
 have WG:Wd ≠ G:=fun z=>by rw [z,h4] at hW; cases hW
 have WF:Wd ≠ Fa:=fun z=>by rw [z,h6] at hW; cases hW
 have zW:∀ p ∈ [Wd],¬ (fun l=>H l=none/\l ≠ G) p\/∀ us,H2 p ≠ some (.lst us):=fun p hp=>.inr fun us=>by rw [List.mem_singleton.mp hp,hW]; exact fun y=>nomatch y
 have eG:=t12.keep _ _ h4 (by simpa using fun z=>WG z.symm)
 rw [hG] at eG
 injection eG with eG
 injection eG with eG
 subst eG
 have hT2:upd (upd H2 Wd (.dK (putK kvs (Sum.inr k) (.ref a)))) T (.tup [.str k,.ref a]) T=some (.tup [.str k,.ref a]):=upd_same
 have hW2:upd (upd H2 Wd (.dK (putK kvs (Sum.inr k) (.ref a)))) T (.tup [.str k,.ref a]) Wd=some (.dK (putK kvs (Sum.inr k) (.ref a))):=by
  rw [upd_ne (fun z=>by rw [<- z,upd_same] at hT; cases hT),upd_same]
 have f6:=t12.keep _ _ h6 (by simpa using fun z=>WF z.symm)
 have g3:=(h3.put hk w).sb t12 zW
 have g5:=h5.sb t12 zW
 have g7:=h7.sb t12 zW
 have gw:=w.sb t12 zW
 have s12:SB [] H (upd (upd H2 Wd (.dK (putK kvs (Sum.inr k) (.ref a)))) T (.tup [.str k,.ref a])):=((h1.nil (ps:=[Wd])).trans t12).drop nW
 generalize upd (upd H2 Wd (.dK (putK kvs (Sum.inr k) (.ref a)))) T (.tup [.str k,.ref a])=H4 at *
 have t3:SB [G] H4 (upd H4 G (.lst (ws++[.ref T]))):=SB.set hG (by simp) _
 have zG:∀ p ∈ [G],¬ (fun l=>H l=none/\l ≠ G) p\/∀ us,H4 p ≠ some (.lst us):=fun p hp=>.inl fun y=>y.2 (List.mem_singleton.mp hp)
 have e0:ks++(gs++[k])=ks++gs++[k]:=by rw [List.append_assoc]
 refine ⟨((s12.nil (ps:=[G])).trans t3).drop nG,⟨_,t3.keep _ _ hW2 (by simpa using WG),by rw [e0]; exact g3.sb t3 zG⟩,⟨_,upd_same,(g5.sb t3 zG).append (.cons (t3.sqT (SqT.of hT2)) (gw.sb t3 zG) .nil)⟩,t3.keep _ _ f6 (by simpa using FG),g7.sb t3 zG,?_,?_⟩
 ·rw [e0]
  exact List.nodup_append.mpr ⟨h8,by simp,fun x hx y hy e=>by rw [List.mem_singleton.mp hy] at e; rw [e] at hx; exact hk hx⟩
 ·rw [e0]
  intro x hx
  rcases List.mem_append.mp hx with hx | hx
  ·exact h9 x hx
  ·rw [List.mem_singleton.mp hx]; exact r
theorem zaj {ks:List Str} (h:∀ x,x=n\/x ∈ ks->∀ y ∈ adj b x,y ∈ ks) (r:Rch b n k):k ∈ ks:=by
 induction r with
 | one e=>exact h n (.inl rfl) _ e
 | step _ e ih=>exact h _ (.inr ih) _ e
end
theorem Rd.sb {H H':Hp} {d:Addr} {kvs:List (Key × V)} (h:L2.Rd H d (.dK kvs)) (s:SB [] H H'):L2.Rd H' d (.dK kvs):=by
 rcases h with h | ⟨o,h⟩
 ·exact .inl (s.keep _ _ h nmn)
 ·exact .inr ⟨o,s.frzs _ _ _ h⟩
theorem z1r (f:Str->Bool) {ss:List Str} {j:Nat} {x:Str} (e:ss[j]?=some x):((ss.take (j+1)).filter f).map V.str=((ss.take j).filter f).map V.str++(if f x=true then [V.str x] else []):=by
 rw [List.take_add_one,e,List.filter_append,List.map_append]
 congr 1
 by_cases z:f x=true
 ·simp [z]
 ·simp [z]
variable {K:PySem.W.Frag} {H H':Hp}
theorem z0b {γ:Type} [DecidableEq γ] (p:γ × Int) (r:List (γ × Int)) (x:γ):sumE (p::r) x=(if p.1=x then p.2 else 0)+sumE r x:=rfl
namespace Gr
def woL (t:Tr) (m:Int):List (Tr × Int)->List (Tr × Int)
 | []=>[]
 | p::r=>if p.1 ≠ t then p::woL t m r else if m < p.2 then (p.1,p.2-m)::woL t m r else woL t m r
theorem woL_none {t:Tr} {m:Int}:∀ {bs:List (Tr × Int)},(∀ p ∈ bs,p.1 ≠ t)->woL t m bs=bs
 | [],_=>rfl
 | p::r,h=>by
  rw [woL,if_pos (h p (by simp)),woL_none fun q hq=>h q (by simp [hq])]
theorem woL_mem {t:Tr} {m:Int} (hm:0<=m):∀ {bs:List (Tr × Int)} {p:Tr × Int},p ∈ woL t m bs->∃ q ∈ bs,q.1=p.1/\p.2<=q.2/\(1<=q.2->1<=p.2)
 | [],_,h=>nomatch h
 | q::r,p,h=>by
  rw [woL] at h
  split at h
  ·rcases List.mem_cons.mp h with e | h
   ·exact ⟨q,by simp,by rw [e],by rw [e]; exact Int.le_refl _,by rw [e]; exact id⟩
   ·obtain ⟨q',h1,h2⟩:=woL_mem hm h; exact ⟨q',by simp [h1],h2⟩
  ·split at h
   ·rcases List.mem_cons.mp h with e | h
    ·exact ⟨q,by simp,by rw [e],by rw [e]; show q.2-m<=q.2; omega,by rw [e]; show _->1<=q.2-m; omega⟩
    ·obtain ⟨q',h1,h2⟩:=woL_mem hm h; exact ⟨q',by simp [h1],h2⟩
   ·obtain ⟨q',h1,h2⟩:=woL_mem hm h; exact ⟨q',by simp [h1],h2⟩
theorem woL_key {t:Tr} {m:Int}:∀ {bs:List (Tr × Int)} {p:Tr × Int},p ∈ woL t m bs->∃ q ∈ bs,q.1=p.1
 | [],_,h=>nomatch h
 | q::r,p,h=>by
  rw [woL] at h
  split at h
  ·rcases List.mem_cons.mp h with e | h
   ·exact ⟨q,by simp,by rw [e]⟩
   ·obtain ⟨q',h1,h2⟩:=woL_key h; exact ⟨q',by simp [h1],h2⟩
  ·split at h
   ·rcases List.mem_cons.mp h with e | h
    ·exact ⟨q,by simp,by rw [e]⟩
    ·obtain ⟨q',h1,h2⟩:=woL_key h; exact ⟨q',by simp [h1],h2⟩
   ·obtain ⟨q',h1,h2⟩:=woL_key h; exact ⟨q',by simp [h1],h2⟩
theorem woL_pair {R:Tr->Tr->Prop} {t:Tr} {m:Int}:∀ {bs:List (Tr × Int)},bs.Pairwise (fun p q=>R p.1 q.1)->(woL t m bs).Pairwise (fun p q=>R p.1 q.1)
 | [],_=>.nil
 | p::r,h=>by
  obtain ⟨h1,h2⟩:=List.pairwise_cons.mp h
  have ih:=woL_pair (t:=t) (m:=m) h2
  have hk:∀ q ∈ woL t m r,R p.1 q.1:=fun q hq=>by
   obtain ⟨q',hq',e⟩:=woL_key hq
   rw [<- e]; exact h1 q' hq'
  rw [woL]
  split
  ·exact List.pairwise_cons.mpr ⟨hk,ih⟩
  ·split
   ·exact List.pairwise_cons.mpr ⟨hk,ih⟩
   ·exact ih
theorem woL_tot (t:Tr) (m:Int):∀ bs:List (Tr × Int),tot (woL t m bs)<=tot bs
 | []=>Nat.le_refl _
 | p::r=>by
  have ih:=woL_tot t m r
  rw [woL]
  split
  ·simp only [tot]; omega
  ·split
   ·simp only [tot]; omega
   ·simp only [tot]; omega
theorem woL_len (t:Tr) (m:Int):∀ bs:List (Tr × Int),(woL t m bs).length<=bs.length
 | []=>Nat.le_refl _
 | p::r=>by
  have ih:=woL_len t m r
  rw [woL]
  split
  ·simp only [List.length_cons]; omega
  ·split
   ·simp only [List.length_cons]; omega
   ·simp only [List.length_cons]; omega
theorem sumE_woL {t:Tr} {m:Int} (x:Tr):∀ {bs:List (Tr × Int)},bs.Pairwise (fun p q=>p.1 ≠ q.1)->(∀ p ∈ bs,0 < p.2)->0<=m->sumE (woL t m bs) x=if x=t then (if m < sumE bs t then sumE bs t-m else 0) else sumE bs x
 | [],_,_,hm=>by
  show (0:Int)=if x=t then (if m < 0 then 0-m else 0) else 0
  split
  ·rw [if_neg (by omega)]
  ·rfl
 | p::r,h,hp,hm=>by
  obtain ⟨h1,h2⟩:=List.pairwise_cons.mp h
  have ih:=sumE_woL (t:=t) (m:=m) x h2 (fun q hq=>hp q (by simp [hq])) hm
  rw [woL]
  by_cases e:p.1=t
  ·rw [if_neg (by simpa using e)]
   have hr:∀ q ∈ r,q.1 ≠ t:=fun q hq z=>h1 q hq (by rw [e,z])
   have z0:sumE r t=0:=S_zero hr
   rw [woL_none hr,z0b p r t,if_pos e,z0,Int.add_zero]
   by_cases hlt:m < p.2
   ·rw [if_pos hlt,if_pos hlt,z0b]
    by_cases hx:x=t
    ·rw [if_pos hx,hx,if_pos (by exact e),z0]; simp
    ·rw [if_neg hx,if_neg (by rw [e]; exact fun z=>hx z.symm),z0b,if_neg (by rw [e]; exact fun z=>hx z.symm)]
   ·rw [if_neg hlt,if_neg hlt]
    by_cases hx:x=t
    ·rw [if_pos hx,hx,z0]
    ·rw [if_neg hx,z0b,if_neg (by rw [e]; exact fun z=>hx z.symm),Int.zero_add]
  ·rw [if_pos e,z0b,ih,z0b p r t,if_neg e,Int.zero_add]
   by_cases hx:x=t
   ·rw [if_pos hx,if_pos hx,hx,if_neg e,Int.zero_add]
   ·rw [if_neg hx,if_neg hx,z0b]
/-- without so many of a tree -/
def wo (g:Gr) (t:Tr) (m:Int):Gr:=ofPs (woL t m g.ps)
theorem wo_ps (g:Gr) (t:Tr) (m:Int):(wo g t m).ps=woL t m g.ps:=ps_ofPs _
variable {C D E:Int} {g k:Gr}
theorem ok_ne (h:g.Ok C):g.ps.Pairwise (fun p q=>p.1 ≠ q.1):=(ok_iff.mp h).2.imp fun z=>zf8 z
theorem ok_pos (h:g.Ok C):∀ p ∈ g.ps,0 < p.2:=fun p hp=>by have:=((ok_iff.mp h).1 p hp).2.2.1; omega
theorem wo_ok (h:g.Ok C) {t:Tr} {m:Int} (hm:0<=m):(wo g t m).Ok C:=by
 obtain ⟨h1,h2⟩:=ok_iff.mp h
 refine ok_ps.mpr ⟨fun p hp=>?_,woL_pair (R:=fun a b=>dataLt (tEnc a) (tEnc b)=true) h2⟩
 obtain ⟨q,hq,e,l,o⟩:=woL_mem hm hp
 obtain ⟨a,b,c,d⟩:=h1 q hq
 rw [<- e]
 exact ⟨a,b,o c,by omega⟩
theorem S_wo (h:g.Ok C) {t:Tr} {m:Int} (hm:0<=m) (x:Tr):S (wo g t m) x=if x=t then (if m < S g t then S g t-m else 0) else S g x:=by
 show sumE (wo g t m).ps x=_
 rw [wo_ps]; exact sumE_woL x (ok_ne h) (ok_pos h) hm
theorem wo_parts (g:Gr) (t:Tr) (m:Int):(wo g t m).parts<=g.parts:=by
 rw [wo,parts_ofPs,<- tot_ps g]; exact woL_tot _ _ _
theorem wo_len (g:Gr) (t:Tr) (m:Int):(wo g t m).ps.length<=g.ps.length:=by rw [wo_ps]; exact woL_len _ _ _
theorem wo_deep (g:Gr) (t:Tr) (m:Int):(wo g t m).deep<=g.deep:=by
 refine deep_le fun p hp=>?_
 rw [wo_ps] at hp
 obtain ⟨q,hq,e⟩:=woL_key hp
 rw [<- e]; exact mem_deep g q hq
theorem sumE_mem:∀ {bs:List (Tr × Int)},bs.Pairwise (fun p q=>p.1 ≠ q.1)->∀ p ∈ bs,sumE bs p.1=p.2
 | [],_,_,h=>nomatch h
 | q::r,h,p,hp=>by
  obtain ⟨h1,h2⟩:=List.pairwise_cons.mp h
  rw [z0b]
  rcases List.mem_cons.mp hp with e | hp
  ·rw [e,if_pos rfl,S_zero fun q' hq' z=>h1 q' hq' z.symm,Int.add_zero]
  ·rw [if_neg (h1 p hp),Int.zero_add]; exact sumE_mem h2 p hp
theorem S_mem (h:g.Ok C) {p:Tr × Int} (hp:p ∈ g.ps):S g p.1=p.2:=sumE_mem (ok_ne h) p hp
theorem S_cases (h:g.Ok C) (x:Tr):(S g x=0/\∀ p ∈ g.ps,p.1 ≠ x)\/∃ m,(x,m) ∈ g.ps/\S g x=m/\1<=m/\m < C:=by
 by_cases e:∃ p ∈ g.ps,p.1=x
 ·obtain ⟨p,hp,rfl⟩:=e
  obtain ⟨_,_,c,d⟩:=(ok_iff.mp h).1 p hp
  exact .inr ⟨p.2,hp,S_mem h hp,c,d⟩
 ·have h':∀ p ∈ g.ps,p.1 ≠ x:=fun p hp z=>e ⟨p,hp,z⟩
  exact .inl ⟨S_zero h',h'⟩
theorem S_nonneg (h:g.Ok C) (x:Tr):0<=S g x:=by
 rcases S_cases h x with ⟨e,_⟩ | ⟨m,_,e,h1,_⟩
 ·omega
 ·omega
theorem S_lt (h:g.Ok C) (hC:1<=C) (x:Tr):S g x < C:=by
 rcases S_cases h x with ⟨e,_⟩ | ⟨m,_,e,_,h1⟩
 ·omega
 ·omega
/-- two groves together,by what the numbers come to -/
theorem tgt_okM (hg:∀ p ∈ g.ps,z01 p.1.1/\p.1.2.Ok E/\1<=p.2) (hk:∀ p ∈ k.ps,z01 p.1.1/\p.1.2.Ok E/\1<=p.2) (h:∀ t,S g t+S k t < E):(tgt g k).Ok E:=by
 have hr:=z8w (enc:=tEnc) (g.ps++k.ps)
 have hall:∀ p ∈ g.ps++k.ps,z01 p.1.1/\p.1.2.Ok E/\1<=p.2:=fun p hp=>(List.mem_append.mp hp).elim (hg p) (hk p)
 refine ok_ps.mpr ⟨fun p hp=>?_,hr⟩
 obtain ⟨q,hq,e⟩:=z1b (enc:=tEnc) _ p hp
 obtain ⟨a,b,_⟩:=hall q hq
 have h1:=(za2 (enc:=tEnc) (fun p hp=>(hall p hp).2.2) p hp).1
 have e2:sumE (tdy tEnc (g.ps++k.ps)) p.1=p.2:=sumE_mem (hr.imp fun z=>zf8 z) p hp
 rw [z7e,z0t] at e2
 have:=h p.1
 refine ⟨e ▸ a,e ▸ b,h1,?_⟩
 show p.2 < E
 rw [<- e2]; exact this
theorem ok_three (h:g.Ok C) (hC:C<=E):∀ p ∈ g.ps,z01 p.1.1/\p.1.2.Ok E/\1<=p.2:=fun p hp=>by
 obtain ⟨a,b,c,_⟩:=(ok_iff.mp h).1 p hp
 exact ⟨a,b.mono hC,c⟩
theorem tgt_ok2 (hg:g.Ok C) (hk:k.Ok D) (hC:1<=C) (hD:1<=D):(tgt g k).Ok (C+D):=by
 refine tgt_okM (ok_three hg (by omega)) (ok_three hk (by omega)) fun t=>?_
 have:=S_lt hg hC t
 have:=S_lt hk hD t
 omega
theorem tgt_nil (hg:g.Ok C):tgt g .nil=g:=by
 have hS:∀ t,S (tgt g .nil) t=S g t:=fun t=>by rw [S_tgt]; exact Int.add_zero _
 cases g with
 | nil=>exact ext (tgt_ok2 (C:=1) (D:=1) (g:=.nil) (k:=.nil) trivial trivial (by omega) (by omega)) hg hS
 | cons n h m r =>
  have hC:1<=C:=by have:=hg.2.2.1; have:=hg.2.2.2.1; omega
  exact ext (tgt_ok2 hg (k:=.nil) (D:=1) trivial hC (by omega)) hg hS
/-- so many of each tree -/
def tmsL (m:Int) (bs:List (Tr × Int)):List (Tr × Int):=bs.map fun p=>(p.1,p.2*m)
def tmsG (g:Gr) (m:Int):Gr:=if m=0 then .nil else ofPs (tmsL m g.ps)
theorem tms_key {m:Int} {p:Tr × Int} (hp:p ∈ (tmsG g m).ps):∃ q ∈ g.ps,q.1=p.1:=by
 rw [tmsG] at hp
 split at hp
 ·exact nomatch hp
 ·rw [ps_ofPs] at hp
  obtain ⟨q,hq,e⟩:=List.mem_map.mp hp
  exact ⟨q,hq,by rw [<- e]⟩
theorem tms_ok (h:g.Ok C) (hC:1<=C) {m:Int} (hm:0<=m):(tmsG g m).Ok (C*m+C):=by
 have hle:C<=C*m+C:=by have:=Int.mul_nonneg (show (0:Int)<=C by omega) hm; omega
 rw [tmsG]
 split
 ·trivial
 ·obtain ⟨h1,h2⟩:=ok_iff.mp h
  refine ok_ps.mpr ⟨fun p hp=>?_,?_⟩
  ·obtain ⟨q,hq,rfl⟩:=List.mem_map.mp hp
   obtain ⟨a,b,c,d⟩:=h1 q hq
   have m1:1<=m:=by omega
   refine ⟨a,b.mono hle,?_,?_⟩
   ·show 1<=q.2*m
    have:=Int.mul_le_mul c m1 (by omega) (by omega)
    omega
   ·show q.2*m < C*m+C
    have:=Int.mul_le_mul_of_nonneg_right (show q.2<=C by omega) hm
    omega
  ·exact List.pairwise_map.mpr (h2.imp fun z=>z)
/-- the place of a tree among the trees of a grove -/
def pos (g:Gr) (t:Tr):Nat:=(g.ps.map (·.1)).idxOf t
/-- all names of a grove are among these -/
def Named (ns:List Str) (g:Gr):Prop:=∀ x ∈ g.within,x.1.1 ∈ ns
theorem named_iff {ns:List Str}:Named ns g ↔ ∀ p ∈ g.ps,p.1.1 ∈ ns/\Named ns p.1.2:=by
 unfold Named
 rw [within_ps]
 constructor
 ·intro h p hp
  exact ⟨h p (List.mem_flatMap.mpr ⟨p,hp,by simp⟩),fun x hx=>h x (List.mem_flatMap.mpr ⟨p,hp,by simp [hx]⟩)⟩
 ·intro h x hx
  obtain ⟨p,hp,hx⟩:=List.mem_flatMap.mp hx
  rcases List.mem_cons.mp hx with e | hx
  ·rw [e]; exact (h p hp).1
  ·exact (h p hp).2 x hx
theorem named_wo {ns:List Str} (h:Named ns g) (t:Tr) (m:Int):Named ns (wo g t m):=named_iff.mpr fun p hp=>by
 rw [wo_ps] at hp
 obtain ⟨q,hq,e⟩:=woL_key hp
 rw [<- e]; exact named_iff.mp h q hq
theorem named_tms {ns:List Str} (h:Named ns g) (m:Int):Named ns (tmsG g m):=named_iff.mpr fun p hp=>by
 obtain ⟨q,hq,e⟩:=tms_key hp
 rw [<- e]; exact named_iff.mp h q hq
theorem named_tgt {ns:List Str} (h:Named ns g) (h2:Named ns k):Named ns (tgt g k):=named_iff.mpr fun p hp=>by
 rw [tgt_ps] at hp
 obtain ⟨q,hq,e⟩:=z1b (enc:=tEnc) _ p hp
 rw [<- e]
 rcases List.mem_append.mp hq with hq | hq
 ·exact named_iff.mp h q hq
 ·exact named_iff.mp h2 q hq
/-- one kind of tree,so many -/
def one (t:Tr) (m:Int):Gr:=.cons t.1 t.2 m .nil
theorem one_ps (t:Tr) (m:Int):(one t m).ps=[(t,m)]:=rfl
theorem S_one (t:Tr) (m:Int) (x:Tr):S (one t m) x=if t=x then m else 0:=by
 show sumE [(t,m)] x=_
 rw [z0b]; exact Int.add_zero _
theorem named_one {ns:List Str} {t:Tr} (h:t.1 ∈ ns) (h2:Named ns t.2) (m:Int):Named ns (one t m):=named_iff.mpr fun p hp=>by
 rw [one_ps] at hp
 rw [List.mem_singleton.mp hp]; exact ⟨h,h2⟩
end Gr
def Wd (d:PyData):Prop:=d.canLay0=true/\d.depth<=190
theorem Wd.of {d:PyData} (h:SeqAt.shaped d=true):Wd d:=⟨SeqAt.canLay_of_shaped h,by have:=SeqAt.depth_of_shaped h; omega⟩
theorem Gr.wd {C:Int} {g:Gr} (h:g.Ok C) (hd:g.deep<=63):Wd g.enc:=⟨by simp [Gr.enc,PyData.canLay0,Gr.lays h],by have:=g.enc_depth; omega⟩
/-- how many further ones a kind that spreads is grown by -/
def Bk.far (b:Bk) (k:Str) (n:Int):Int:=match b.get k with
 | some kd=>if kd.w=true then n else 0
 | none=>0
theorem Bk.far_le (b:Bk) (k:Str) {n:Int} (h:0<=n):0<=b.far k n/\b.far k n<=n:=by
 unfold Bk.far
 split
 ·split <;> omega
 ·omega
namespace Gr
variable {b:Bk} {n:Int} {C F E:Int} {g fr:Gr}
/-- a rule's groves,grown -/
def grw (r:Ru) (n:Int):Gr:=tgt r.1 (tmsG r.2 n)
theorem grw_nil (hn:0<=n):grw (.nil,.nil) n=.nil:=by
 have h:(tmsG .nil n)=.nil:=by
  unfold tmsG
  split <;> rfl
 show tgt .nil (tmsG .nil n)=.nil
 rw [h]; exact tgt_nil (C:=1) trivial
/-- struck: the grove at a place,with what is laid there,and the new place of what holds it -/
def stk (b:Bk) (n:Int) (fr:Gr):Pl->Gr->Gr × Pl
 | [],g=>(g,[])
 | i::r,g=>match g.ps[i]? with
  | none=>(g,[])
  | some p=>if r=[] then (tgt (wo g p.1 1) fr,[]) else
    (tgt (wo g p.1 1) (one (p.1.1,(stk b n fr r p.1.2).1) (1+b.far p.1.1 n)),pos (tgt (wo g p.1 1) (one (p.1.1,(stk b n fr r p.1.2).1) (1+b.far p.1.1 n))) (p.1.1,(stk b n fr r p.1.2).1)::(stk b n fr r p.1.2).2)
/-- a place of a tree that holds nothing,of this kind -/
def bareAt:Gr->Pl->Option Str
 | _,[]=>none
 | g,i::r=>match g.ps[i]? with
  | none=>none
  | some p=>if r=[] then (if p.1.2=.nil then some p.1.1 else none) else bareAt p.1.2 r
theorem stk_one {i:Nat} {p:Tr × Int} (e:g.ps[i]?=some p):stk b n fr [i] g=(tgt (wo g p.1 1) fr,[]):=by
 rw [stk,e]; rfl
/-- the changed tree,and the changed row -/
def chg (b:Bk) (n:Int) (fr:Gr) (r:Pl) (p:Tr × Int):Tr:=(p.1.1,(stk b n fr r p.1.2).1)
def chR (b:Bk) (n:Int) (fr:Gr) (r:Pl) (g:Gr) (p:Tr × Int):Gr:=tgt (wo g p.1 1) (one (chg b n fr r p) (1+b.far p.1.1 n))
theorem stk_more {i:Nat} {r:Pl} {p:Tr × Int} (e:g.ps[i]?=some p) (hr:r ≠ []):stk b n fr (i::r) g=(chR b n fr r g p,pos (chR b n fr r g p) (chg b n fr r p)::(stk b n fr r p.1.2).2):=by
 rw [stk,e]
 simp only [if_neg hr]
 rfl
theorem bare_one {i:Nat} {k:Str} (h:bareAt g [i]=some k):∃ p,g.ps[i]?=some p/\p.1=(k,.nil):=by
 rw [bareAt] at h
 cases e:g.ps[i]? with
 | none=>rw [e] at h; cases h
 | some p =>
  rw [e] at h
  simp only [if_true] at h
  by_cases z:p.1.2=.nil
  ·rw [if_pos z] at h
   exact ⟨p,rfl,Prod.ext (Option.some.inj h) z⟩
  ·rw [if_neg z] at h; cases h
theorem bare_more {i:Nat} {r:Pl} {k:Str} (hr:r ≠ []) (h:bareAt g (i::r)=some k):∃ p,g.ps[i]?=some p/\bareAt p.1.2 r=some k:=by
 rw [bareAt] at h
 cases e:g.ps[i]? with
 | none=>rw [e] at h; cases h
 | some p =>
  rw [e] at h
  simp only [if_neg hr] at h
  exact ⟨p,rfl,h⟩
theorem wo_okM {t:Tr} {m:Int} (h:g.Ok C) (hm:0<=m) (hC:C<=E):∀ p ∈ (wo g t m).ps,z01 p.1.1/\p.1.2.Ok E/\1<=p.2:=ok_three (wo_ok h hm) hC
theorem S_wo_le (h:g.Ok C) {t:Tr} {m:Int} (hm:0<=m) (x:Tr):S (wo g t m) x<=S g x:=by
 rw [S_wo h hm]
 split
 ·next e=>
  subst e
  have:=S_nonneg h x
  split <;> omega
 ·exact Int.le_refl _
theorem ok_mem (h:g.Ok C) {p:Tr × Int} (hp:p ∈ g.ps):z01 p.1.1/\p.1.2.Ok C/\1<=p.2/\p.2 < C:=(ok_iff.mp h).1 p hp
theorem C_pos {p:Tr × Int} (h:g.Ok C) (hp:p ∈ g.ps):2<=C:=by have:=(ok_mem h hp).2.2; omega
theorem stk_ok (hn:0<=n) (hF:1<=F) (hfr:fr.Ok F):∀ {pl:Pl} {g:Gr} {k:Str},g.Ok C->bareAt g pl=some k->(stk b n fr pl g).1.Ok (C+F+n+2)
 | [],_,_,_,h=>nomatch h
 | i::r,g,k,ho,h=>by
  by_cases hr:r=[]
  ·subst hr
   obtain ⟨p,e,_⟩:=bare_one h
   rw [stk_one e]
   have hC:=C_pos ho (List.mem_of_getElem? e)
   exact (tgt_ok2 (wo_ok ho (by omega)) hfr (by omega) hF).mono (by omega)
  ·obtain ⟨p,e,h2⟩:=bare_more hr h
   rw [stk_more e hr]
   have pm:=List.mem_of_getElem? e
   have hC:=C_pos ho pm
   obtain ⟨a,o,_,_⟩:=ok_mem ho pm
   have ih:=stk_ok hn hF hfr o h2
   obtain ⟨f1,f2⟩:=Bk.far_le b p.1.1 hn
   refine tgt_okM (wo_okM ho (by omega) (by omega)) (fun q hq=>?_) fun t=>?_
   ·rw [one_ps] at hq
    rw [List.mem_singleton.mp hq]
    exact ⟨a,ih,by show 1<=1+b.far p.1.1 n; omega⟩
   ·have h1:=S_wo_le ho (t:=p.1) (m:=1) (by omega) t
    have h3:=S_lt ho (by omega) t
    rw [S_one]
    split <;> omega
theorem stk_named {ns:List Str} (hfr:Named ns fr):∀ {pl:Pl} {g:Gr} {k:Str},bareAt g pl=some k->Named ns g->Named ns (stk b n fr pl g).1
 | [],_,_,h,_=>nomatch h
 | i::r,g,k,h,hg=>by
  by_cases hr:r=[]
  ·subst hr
   obtain ⟨p,e,_⟩:=bare_one h
   rw [stk_one e]
   exact named_tgt (named_wo hg _ _) hfr
  ·obtain ⟨p,e,h2⟩:=bare_more hr h
   rw [stk_more e hr]
   obtain ⟨h3,h4⟩:=named_iff.mp hg p (List.mem_of_getElem? e)
   exact named_tgt (named_wo hg _ _) (named_one (t:=chg b n fr r p) h3 (stk_named hfr h2 h4) _)
end Gr
abbrev noR:Ru:=(.nil,.nil)
theorem Wh.int {K:PySem.W.Frag} {H:Hp} {v:V} {n:Int} (h:Wh K H v (some n)):v=.int n:=by
 rcases h with ⟨i,rfl,e⟩ | ⟨e,_⟩
 ·rw [Option.some.inj e]
 ·cases e
/-- taken away one by one,if there is enough -/
def Gr.exc (g:Gr):List (Tr × Int)->Option Gr
 | []=>some g
 | p::r=>if Gr.S g p.1 < p.2 then none else Gr.exc (Gr.wo g p.1 p.2) r
namespace Gr
variable {C F:Int} {g:Gr} {b:Bk} {n:Int}
theorem exc_ok:∀ {ps:List (Tr × Int)} {g l:Gr},g.Ok C->(∀ p ∈ ps,0<=p.2)->exc g ps=some l->l.Ok C/\l.parts<=g.parts/\l.deep<=g.deep/\l.ps.length<=g.ps.length
 | [],g,l,ho,_,h=>by rw [<- Option.some.inj h]; exact ⟨ho,Nat.le_refl _,Nat.le_refl _,Nat.le_refl _⟩
 | p::r,g,l,ho,hp,h=>by
  rw [exc] at h
  split at h
  ·cases h
  ·have h0:=hp p (by simp)
   obtain ⟨a1,a2,a3,a4⟩:=exc_ok (wo_ok ho h0) (fun q hq=>hp q (by simp [hq])) h
   have:=wo_parts g p.1 p.2
   have:=wo_deep g p.1 p.2
   have:=wo_len g p.1 p.2
   exact ⟨a1,by omega,by omega,by omega⟩
end Gr
inductive RowAll (K:PySem.W.Frag) (H:Hp):List (Key × V)->Bk->Prop
 | nil:RowAll K H [] []
 | cons {l:Addr} {zs:List V} {k:Kd} {kvs:List (Key × V)} {b:Bk}:H l=some (.lst zs)->Bears K H Ru.enc zs k.rs->RowAll K H kvs b->RowAll K H ((Sum.inr k.n,.ref l)::kvs) (k::b)
section
variable {K:PySem.W.Frag} {H H':Hp}
theorem RowAll.sb {ps:List Addr} (e:SB ps H H'):∀ {kvs:List (Key × V)} {b:Bk},RowAll K H kvs b->(∀ p ∈ kvs,∀ q ∈ ps,p.2 ≠ .ref q)->RowAll K H' kvs b
 | _,_,.nil,_=>.nil
 | _,_,.cons h1 h2 h3,n=>.cons (e.keep _ _ h1 fun z=>n _ (mcs ..) _ z rfl) (h2.sb e Ru.noList_enc) (RowAll.sb e h3 fun p hp=>n p (mcm _ hp))
theorem RowAll.append:∀ {kvs kws:List (Key × V)} {b c:Bk},RowAll K H kvs b->RowAll K H kws c->RowAll K H (kvs++kws) (b++c)
 | _,_,_,_,.nil,h=>h
 | _,_,_,_,.cons h1 h2 h3,h=>.cons h1 h2 (RowAll.append h3 h)
theorem RowAll.ne {q:Addr} (hq:H q=none):∀ {kvs:List (Key × V)} {b:Bk},RowAll K H kvs b->∀ p ∈ kvs,p.2 ≠ .ref q
 | _,_,.nil,_,hp=>nomatch hp
 | _,_,.cons h1 _ h3,p,hp=>by
  rcases List.mem_cons.mp hp with e | hp
  ·rw [e]; intro z; rw [V.ref.inj z] at h1; rw [hq] at h1; cases h1
  ·exact RowAll.ne hq h3 p hp
theorem RowAll.length:∀ {kvs:List (Key × V)} {b:Bk},RowAll K H kvs b->kvs.length=b.length
 | _,_,.nil=>rfl
 | _,_,.cons _ _ h=>by rw [List.length_cons,List.length_cons,RowAll.length h]
theorem RowAll.keys:∀ {kvs:List (Key × V)} {b:Bk},RowAll K H kvs b->kvs.map (·.1)=b.names.map Sum.inr
 | _,_,.nil=>rfl
 | _,_,.cons _ _ h=>by simp only [List.map_cons,RowAll.keys h]
theorem RowAll.val {n:Str} {k:Kd}:∀ {kvs:List (Key × V)} {b:Bk},RowAll K H kvs b->b.get n=some k->∃ l zs,valV kvs (Sum.inr n)=some (.ref l)/\H l=some (.lst zs)/\Bears K H Ru.enc zs k.rs
 | _,_,.nil,e=>nomatch e
 | _,_,.cons (l:=l) (zs:=zs) (k:=k') h1 h2 h3,e=>by
  unfold Bk.get at e
  rw [List.find?_cons] at e
  by_cases z:k'.n=n
  ·rw [decide_eq_true z] at e
   have e:=Option.some.inj e
   subst e
   exact ⟨l,zs,by rw [valV,List.find?_cons,decide_eq_true (by rw [z])]; rfl,h1,h2⟩
  ·rw [decide_eq_false z] at e
   obtain ⟨l',zs',a,b',c⟩:=RowAll.val h3 e
   exact ⟨l',zs',by rw [valV,List.find?_cons,decide_eq_false (fun y=>z (Sum.inr.inj y))]; exact a,b',c⟩
end
theorem Wlk.snoc {b:Bk} {n:Str} {p:List Sx} {s:Sx} {k:Str} (h:Wlk b n (p++[s]) k):∃ m kd,Wlk b n p m/\b.get m=some kd/\s ∈ kd.steps/\k=s.k:=by
 generalize e:p++[s]=l at h
 cases h with
 | nil=>exact absurd e (by simp)
 | step w eg hs =>
  obtain ⟨e1,e2⟩:=List.append_inj' e rfl
  have e2:=(List.cons.inj e2).1
  subst e1 e2
  exact ⟨_,_,w,eg,hs,rfl⟩
theorem Wlk.of_nil {b:Bk} {n k:Str} (h:Wlk b n [] k):k=n:=by
 generalize e:([]:List Sx)=l at h
 cases h with
 | nil=>rfl
 | step _ _ _=>exact absurd e (by simp)
theorem Wlk.det {b:Bk} {n:Str}:∀ {p:List Sx} {k j:Str},Wlk b n p k->Wlk b n p j->k=j:=by
 intro p k j h g
 rcases List.eq_nil_or_concat p with rfl | ⟨q,s,rfl⟩
 ·rw [h.of_nil,g.of_nil]
 ·rw [List.concat_eq_append] at h g
  obtain ⟨_,_,_,_,_,e1⟩:=h.snoc
  obtain ⟨_,_,_,_,_,e2⟩:=g.snoc
  rw [e1,e2]
theorem Wlk.at {b:Bk} {n:Str}:∀ {p:List Sx} {k:Str} {j:Nat} {s:Sx},Wlk b n p k->p[j]?=some s->∀ m,Wlk b n (p.take j) m->∃ kd,b.get m=some kd/\s ∈ kd.steps:=by
 intro p k j s h
 induction h with
 | nil=>intro e; exact nomatch e
 | @step p m' kd s' w eg hs ih =>
  intro e m wm
  by_cases hj:j < p.length
  ·rw [List.getElem?_append_left hj] at e
   rw [List.take_append_of_le_length (by omega)] at wm
   exact ih e m wm
  ·rw [List.getElem?_append_right (by omega)] at e
   have hj2:j=p.length:=by
    obtain ⟨h1,_⟩:=List.getElem?_eq_some_iff.mp e
    simp only [List.length_cons,List.length_nil] at h1
    omega
   subst hj2
   rw [List.take_left] at wm
   rw [Nat.sub_self] at e
   have e:=Option.some.inj e
   subst e
   have:=wm.det w
   subst this
   exact ⟨kd,eg,hs⟩
section
variable {γ:Type} [DecidableEq γ]
/-- a weighted sum -/
def wsum (f:γ->Int) (l:List (γ × Int)):Int:=match l with
 | []=>0
 | p::r=>f p.1*p.2+wsum f r
theorem z64 (f:γ->Int):∀ as bs:List (γ × Int),wsum f (as++bs)=wsum f as+wsum f bs
 | [],bs=>by simp [wsum]
 | p::r,bs=>by show _+wsum f (r++bs)=_; rw [z64 f r bs,wsum]; omega
theorem z27 (f:γ->Int) (t:γ):∀ l:List (γ × Int),wsum f l=f t*sumE l t+wsum f (l.filter fun p=>decide (p.1 ≠ t))
 | []=>by simp [wsum,sumE]
 | p::r=>by
  have ih:=z27 f t r
  by_cases e:p.1=t
  ·rw [List.filter_cons_of_neg (by simpa using e)]
   show f p.1*p.2+wsum f r=f t*((if p.1=t then p.2 else 0)+sumE r t)+_
   rw [if_pos e,Int.mul_add,e,ih]; omega
  ·rw [List.filter_cons_of_pos (by simpa using e)]
   show f p.1*p.2+wsum f r=f t*((if p.1=t then p.2 else 0)+sumE r t)+(f p.1*p.2+_)
   rw [if_neg e,Int.zero_add,ih]; omega
theorem z2e (t x:γ):∀ l:List (γ × Int),sumE (l.filter fun p=>decide (p.1 ≠ t)) x=if x=t then 0 else sumE l x
 | []=>by simp [sumE]
 | p::r=>by
  have ih:=z2e t x r
  by_cases e:p.1=t
  ·rw [List.filter_cons_of_neg (by simpa using e),ih]
   by_cases hx:x=t
   ·rw [if_pos hx,if_pos hx]
   ·rw [if_neg hx,if_neg hx,z0b,if_neg (by rw [e]; exact fun z=>hx z.symm),Int.zero_add]
  ·rw [List.filter_cons_of_pos (by simpa using e),z0b,ih]
   by_cases hx:x=t
   ·rw [if_pos hx,if_pos hx,if_neg (by rw [hx]; exact e)]; rfl
   ·rw [if_neg hx,if_neg hx,z0b]
theorem z4v {p:γ × Int} {r:List (γ × Int)}:((p::r).filter fun q=>decide (q.1 ≠ p.1)).length<=r.length:=by
 rw [List.filter_cons_of_neg (by simp)]; exact List.length_filter_le _ _
theorem z6i (f:γ->Int):∀ (n:Nat) (as bs:List (γ × Int)),as.length+bs.length<=n->(∀ x,sumE as x=sumE bs x)->wsum f as=wsum f bs
 | n,[],[],_,_=>rfl
 | 0,p::r,bs,h,_=>by simp at h
 | 0,[],p::r,h,_=>by simp at h
 | n+1,p::r,bs,h,e=>by
  rw [z27 f p.1 (p::r),z27 f p.1 bs,e p.1,z6i f n ((p::r).filter fun q=>decide (q.1 ≠ p.1)) (bs.filter fun q=>decide (q.1 ≠ p.1)) ?_ fun x=>?_]
  ·have h1:=z4v (p:=p) (r:=r)
   have h2:=List.length_filter_le (fun q:γ × Int=>decide (q.1 ≠ p.1)) bs
   simp only [List.length_cons] at h
   omega
  ·rw [z2e,z2e,e]
 | n+1,[],p::r,h,e=>by
  rw [z27 f p.1 (p::r),z27 f p.1 [],<- e p.1,z6i f n (([]:List (γ × Int)).filter fun q=>decide (q.1 ≠ p.1)) ((p::r).filter fun q=>decide (q.1 ≠ p.1)) ?_ fun x=>?_]
  ·have h1:=z4v (p:=p) (r:=r)
   simp only [List.length_cons,List.length_nil,List.filter_nil] at h ⊢
   omega
  ·rw [z2e,z2e,e]
end
namespace Gr
theorem wsum_tms (f:Tr->Int) (m:Int):∀ l:List (Tr × Int),wsum f (tmsL m l)=wsum f l*m
 | []=>by show (0:Int)=0*m; rw [Int.zero_mul]
 | p::r=>by
  show f p.1*(p.2*m)+wsum f (tmsL m r)=(f p.1*p.2+wsum f r)*m
  rw [wsum_tms f m r,Int.add_mul,Int.mul_assoc]
end Gr
section
variable {K:PySem.W.Frag} {H H':Hp} {d:Addr} {f:Str->Int} {L:Nat}
def kvI (p:Str × Int):Key × V:=(Sum.inr p.1,.int p.2)
def DN (H:Hp) (d:Addr) (f:Str->Int) (L:Nat):Prop:=∃ l:List (Str × Int),H d=some (.dK (l.map kvI))/\(l.map (·.1)).Nodup/\l.length<=L/\∀ x,sumE l x=f x
def putI (l:List (Str × Int)) (k:Str) (v:Int):List (Str × Int):=if k ∈ l.map (·.1) then l.map (fun p=>if p.1=k then (p.1,v) else p) else l++[(k,v)]
theorem z4a:∀ (l:List (Str × Int)) {k:Str},k ∉ l.map (·.1)->sumE l k=0
 | [],_,_=>rfl
 | p::r,k,h=>by
  rw [List.map_cons,List.mem_cons,not_or] at h
  rw [z0b,if_neg fun z=>h.1 z.symm,z4a r h.2]; rfl
theorem valI:∀ (l:List (Str × Int)),(l.map (·.1)).Nodup->∀ k,(valV (l.map kvI) (Sum.inr k)).getD (.int 0)=.int (sumE l k)
 | [],_,_=>rfl
 | p::r,h,k=>by
  rw [List.map_cons,List.nodup_cons] at h
  rw [List.map_cons,z0b]
  by_cases e:p.1=k
  ·rw [valV_pos (by rw [kvI,e]),if_pos e,z4a r (by rw [<- e]; exact h.1)]
   show V.int p.2=_
   rw [Int.add_zero]
  ·rw [valV_neg (by rw [kvI]; exact fun z=>e (Sum.inr.inj z)),if_neg e,Int.zero_add]
   exact valI r h.2 k
theorem zga (l:List (Str × Int)) (k:Str) (v:Int):(putI l k v).map kvI=putK (l.map kvI) (Sum.inr k) (.int v):=by
 unfold putI putK
 have e:((l.map kvI).any fun kv=>decide (kv.1=Sum.inr k))=true ↔ k ∈ l.map (·.1):=by
  rw [List.any_eq_true]
  constructor
  ·rintro ⟨q,hq,e⟩
   obtain ⟨p,hp,rfl⟩:=List.mem_map.mp hq
   exact List.mem_map.mpr ⟨p,hp,Sum.inr.inj (of_decide_eq_true e)⟩
  ·intro h
   obtain ⟨p,hp,e⟩:=List.mem_map.mp h
   exact ⟨kvI p,List.mem_map.mpr ⟨p,hp,rfl⟩,decide_eq_true (by rw [kvI,e])⟩
 by_cases h:k ∈ l.map (·.1)
 ·rw [if_pos h,if_pos (e.mpr h),List.map_map,List.map_map]
  refine List.map_congr_left fun p _=>?_
  show kvI (if p.1=k then (p.1,v) else p)=if (kvI p).1=Sum.inr k then _ else _
  by_cases z:p.1=k
  ·rw [if_pos z,if_pos (by rw [kvI,z])]; rfl
  ·rw [if_neg z,if_neg (by rw [kvI]; exact fun y=>z (Sum.inr.inj y))]
 ·rw [if_neg h,if_neg fun z=>h (e.mp z),List.map_append]; rfl
theorem zbd (l:List (Str × Int)) (k:Str) (v:Int):(putI l k v).map (·.1)=if k ∈ l.map (·.1) then l.map (·.1) else l.map (·.1)++[k]:=by
 unfold putI
 by_cases h:k ∈ l.map (·.1)
 ·rw [if_pos h,if_pos h,List.map_map]
  refine List.map_congr_left fun p _=>?_
  show (if p.1=k then (p.1,v) else p).1=p.1
  split <;> rfl
 ·rw [if_neg h,if_neg h,List.map_append]; rfl
theorem za4 {l:List (Str × Int)} (h:(l.map (·.1)).Nodup) (k:Str) (v:Int):((putI l k v).map (·.1)).Nodup:=by
 rw [zbd]
 split
 ·exact h
 ·rename_i z
  exact List.nodup_append.mpr ⟨h,by simp,fun a ha b hb=>by rw [List.mem_singleton.mp hb]; exact fun e=>z (e ▸ ha)⟩
theorem zcc (l:List (Str × Int)) (k:Str) (v:Int):(putI l k v).length<=l.length+1:=by
 unfold putI; split <;> simp
theorem zcw {l:List (Str × Int)} (h:(l.map (·.1)).Nodup) (k:Str) (v:Int) (x:Str):sumE (putI l k v) x=if x=k then v else sumE l x:=by
 unfold putI
 by_cases hk:k ∈ l.map (·.1)
 ·rw [if_pos hk]
  induction l with
  | nil=>cases hk
  | cons p r ih =>
   rw [List.map_cons,List.nodup_cons] at h
   rw [List.map_cons,z0b,z0b]
   by_cases e:p.1=k
   ·have hr:k ∉ r.map (·.1):=by rw [<- e]; exact h.1
    have er:(r.map fun p=>if p.1=k then (p.1,v) else p)=r:=by
     rw [List.map_congr_left (g:=id) fun q hq=>?_,List.map_id]
     rw [if_neg fun z=>hr (List.mem_map.mpr ⟨q,hq,z⟩)]; rfl
    rw [if_pos e,er]
    show (if p.1=x then v else 0)+_=_
    by_cases hx:x=k
    ·rw [if_pos hx,if_pos (by rw [e,hx]),hx,z4a r hr,Int.add_zero]
    ·rw [if_neg hx,if_neg (by rw [e]; exact fun z=>hx z.symm),if_neg (by rw [e]; exact fun z=>hx z.symm)]
   ·rw [if_neg e]
    have hkr:k ∈ r.map (·.1):=by
     rcases List.mem_cons.mp hk with z | z
     ·exact absurd z.symm e
     ·exact z
    rw [ih h.2 hkr]
    by_cases hx:x=k
    ·rw [if_pos hx,if_pos hx,if_neg (by rw [hx]; exact e),Int.zero_add]
    ·rw [if_neg hx,if_neg hx]
 ·rw [if_neg hk,z0t,z0b]
  by_cases hx:x=k
  ·rw [if_pos hx,hx,z4a l hk,if_pos rfl,Int.zero_add]; exact Int.add_zero _
  ·rw [if_neg hx,if_neg fun z=>hx z.symm,Int.zero_add]; exact Int.add_zero _
theorem DN.get (h:DN H d f L) (k:Str):∃ o,DGet H d (.str k) o/\o.getD (.int 0)=.int (f k):=by
 obtain ⟨l,e,nd,_,s⟩:=h
 exact ⟨_,DGet.k (k:=Sum.inr k) e,by rw [valI l nd,s]⟩
theorem DN.put (h:DN H d f L) (hL:L < sizeLine) (k:Str) (v:Int):∃ H',DPut H d (.str k) (.int v) H'/\SB [d] H H'/\DN H' d (fun x=>if x=k then v else f x) (L+1):=by
 obtain ⟨l,e,nd,ll,s⟩:=h
 refine ⟨_,.inl ⟨_,Sum.inr k,e,rfl,by rw [List.length_map]; omega,rfl⟩,SB.setD e (by simp) _,putI l k v,?_,za4 nd k v,?_,fun x=>?_⟩
 ·rw [upd_same,zga]
 ·have:=zcc l k v; omega
 ·rw [zcw nd,s]
theorem DN.sb {ps:List Addr} (h:DN H d f L) (s:SB ps H H') (hd:d ∉ ps):DN H' d f L:=by
 obtain ⟨l,e,r⟩:=h
 exact ⟨l,s.keep _ _ e hd,r⟩
theorem DN.at (h:DN H d f L):∃ kvs,H d=some (.dK kvs):=by obtain ⟨l,e,_⟩:=h; exact ⟨_,e⟩
theorem DN.ext {g:Str->Int} {M:Nat} (h:DN H d f L) (e:∀ x,f x=g x) (hl:L<=M):DN H d g M:=by
 obtain ⟨l,a,b,c,s⟩:=h
 exact ⟨l,a,b,by omega,fun x=>by rw [s,e]⟩
end
section
variable {prog:Program} {w:World} {A:Around} {E:Value->Shared->Prop} {st:Shared} {K:PySem.W.Frag} {e D:Addr} {oe:Obj} {dd:Option Obj}
theorem zcq (C:ExcC K D):PySem.W.findObj K D dd "__class__"=some (.bind (.builtin "getset_descriptor.__get__") (.builtin "object.__class__")):=by
 obtain ⟨cd,hcd,_⟩:=PySem.W.any_some C.hd
 simp only [PySem.W.findObj,hcd,C.ha,C.hn,C.ht,Option.bind_some]
theorem zgb {Q:Option Value->Shared->Prop} (C:ExcC K D) (X:K.In st.heap) (I:PySem.W.InstAt st.heap e oe D dd) (q:Q (some (.ref D)) { st with toks:=st.toks+1 }):wpAny (model prog w) A (getAttr? (.ref e) "__class__") Q E st:=by
 have kf:=zcq (dd:=dd) C
 obtain ⟨hp,gn,dc,tk,ows⟩:=st
 have K0:=I.type (M:=model prog w)
 have K1:=PySem.W.looks_findIn (M:=model prog w) X C.hg
 have K2:=PySem.W.looks_findIn (M:=model prog w) X C.hk
 have K3:=PySem.W.looks_find (M:=model prog w) X I kf
 have kb:Looks (model prog w) hp (isInstance (.ref e) (.type "BaseException")) true:=K0.andThen (PySem.W.looks_subIn X C.hs)
 have z2:(Value.builtin "BaseException.__getattribute__" == Value.builtin "object.__getattribute__")=false:=by decide +kernel
 have z1:(onTheHeap (Value.ref D)&&Value.builtin "BaseException.__getattribute__" == Value.builtin "object.__getattribute__")=false:=by rw [z2,Bool.and_false]
 unfold getAttr? getAttrBy? getAttrBy
 refine wpAny_bind (wpAny_mkText (wpAny_bind (wpAny_attempt (wpAny_holding (wpAny_bind (K0.at (wpAny_bind (K1.at ?gb))))))))
 case gb =>
 show wpAny _ _ (if (onTheHeap (Value.ref D)&&Value.builtin "BaseException.__getattribute__" == Value.builtin "object.__getattribute__")=true then _ else _) _ _ _
 rw [z1,if_neg Bool.false_ne_true]
 unfold getAttrByItsOwn hookBefore
 refine wpAny_bind ?gc
 case gc =>
 rw [if_pos (show onTheHeap (Value.ref D)=true from rfl)]
 refine K2.at (wpAny_bind (wpAny_attempt (wpAny_holding ?gd)))
 case gd =>
 unfold callGetattribute
 rw [show (false&&onTheHeap (Value.builtin "BaseException.__getattribute__"))=false from rfl,if_neg Bool.false_ne_true]
 unfold boundAndCalled
 rw [PySem.F.excAttr_ValueError.ga.bind (.ref e)]
 refine wpAny_bind (wpAny_pure ?ge)
 case ge =>
 show wpAny _ _ (call (.builtin "BaseException.__getattribute__") [.ref e,.str "__class__" tk]) _ _ _
 refine wpAny_call (codeAny_call_builtin PySem.F.excAttr_ValueError.ga.plain PySem.F.entry_bexc_ga ?gf)
 case gf =>
 refine @check_slot (model prog w) _ _ ⟨hp,gn,dc,tk+1,ows⟩ "BaseException.__getattribute__" "BaseException" "__getattribute__" (.ref e) [.str "__class__" tk] [] _ (by decide +kernel) (by decide +kernel) kb (PySem.F.args_bexc_ga (.ref e) (.str "__class__" tk)) ?gg
 case gg =>
 unfold Builtin.«object.__getattribute__»
 refine wpAny_bind (wpAny_of_eq (a:=((Value.ref e:Value),[Value.str "__class__" tk])) (by first | rfl | (simp only [slotArgs]; rfl)) ?gh)
 case gh =>
 refine wpAny_bind (wpAny_pure (wpAny_bind (K0.at (wpAny_bind (K3.at ?gi)))))
 case gi =>
 show wpAny _ _ (holding [Value.builtin "object.__class__"] (call (.builtin "getset_descriptor.__get__") [.builtin "object.__class__",.ref e,.ref D]) >>= ret) _ _ _
 refine wpAny_bind (wpAny_holding (wpAny_call (PySem.W.class_get (s:=⟨hp,gn,dc,tk+1,ows⟩) (ox:=oe) (od:=dd) X I C.hm ?gj)))
 case gj =>
 refine wpAny_pure ?gk
 case gk =>
 show wpAny _ _ (handedOut (.ref D)) _ _ _
 rw [handedOut_of (v:=.ref D) rfl]
 first
  | exact wpAny_pure (wpAny_pure q)
  | exact wpAny_pure q
  | exact wpAny_pure (wpAny_bind (wpAny_pure (wpAny_pure q)))
theorem z9i (C:ExcC K D):PySem.W.KitX K (.ref e) (.ref D) (fun h=>PySem.W.InstAt h e oe D dd) where
 ty:=fun _ _ _ I=>I.type
 it:=fun M h X _=>by
  obtain ⟨cd,hcd,_⟩:=PySem.W.any_some C.hd
  unfold PySem.W.clsIn at hcd
  split at hcd
  ·next ho=>exact fun A' Q' E' s' k q=>by unfold isType loadHead; exact wpAny_bind (wpAny_loadPart (k _ _ (X _ _ ho)) (wpAny_pure q))
  ·cases hcd
 ne:=fun h tp dd' its n sl X htp=>Bool.eq_false_iff.mpr fun q=>by
  obtain ⟨cd,hcd,_⟩:=PySem.W.any_some C.hd
  cases Value.ref.inj (beq_iff_eq.mp q)
  unfold PySem.W.clsIn at hcd
  split at hcd
  ·next ho=>exact absurd ((X _ _ ho).symm.trans htp) (fun z=>by cases z)
  ·cases hcd
 ca:=fun X I k=>zgb C X I k
end
/-- no dict,or one that stands -/
def ExD (H:Hp) (d:Option Addr):Prop:=d=none\/∃ dd fs,d=some dd/\H dd=some (.xd fs)
theorem ExD.sb {H H':Hp} {d:Option Addr} (h:ExD H d) (s:SB [] H H'):ExD H' d:=by
 rcases h with h | ⟨dd,fs,h,g⟩
 ·exact .inl h
 ·exact .inr ⟨dd,fs,h,s.keep _ _ g nmn⟩
/-- isinstance(e,c),e what the clause holds -/
def zaf (K:PySem.W.Frag) (a:Addr) (cls:Value) (d:Option Addr):List V->Hp->VK->Prop:=fun xs H Q=>∃ (D:Addr) (c:V) (cv:Value) (b:Bool),cls=.ref D/\ExcC K D/\ExD H d/\xs=[.ref a,c]/\(∀ u,RelV c u->u=cv)/\PySem.W.kitOne K (.ref D) cv=some b/\Q (.bl b) H
/-- isinstance(e,(c1,c2,..)) -/
def z8j (K:PySem.W.Frag) (a:Addr) (cls:Value) (d:Option Addr):List V->Hp->VK->Prop:=fun xs H Q=>∃ (D tp:Addr) (cs:List V) (ws:List Value) (b:Bool),cls=.ref D/\ExcC K D/\ExD H d/\xs=[.ref a,.ref tp]/\H tp=some (.tup cs)/\Paired ClsV cs ws/\PySem.W.kitAny K (.ref D) ws=some b/\Q (.bl b) H
/-- e.f,f a field of what the clause holds -/
def tXfg (K:PySem.W.Frag) (a:Addr) (cls:Value) (d:Option Addr) (f:Str) (te:TE):TE:=fun σ H Q=>te σ H fun x H1=>∃ (C dd:Addr) (fs:List (Str × V)) (v:V),x=.ref a/\cls=.ref C/\ExcC K C/\PySem.W.findIn K (.ref C) f=some none/\d=some dd/\H1 dd=some (.xd fs)/\fs.lookup f=some v/\Q v H1
section
variable {X:Cx} {a:Addr} {oe:Obj} {cls:Value} {d:Option Addr}
theorem zbt {D:Addr} {pins:List (Addr × Obj)} {σ:L2.St} {H:Hp} {s:Shared} (hm:(a,oe) ∈ X.pn) (hz:Zc (.ref D) d oe) (hf:∃ vs,oe.data=.fields vs) (I:Inv X pins σ H s) (hd:ExD H d):∃ dd,PySem.W.InstAt s.heap a oe D dd:=by
 obtain ⟨h,_⟩:=I.pin (a,oe) (List.mem_append.mpr (.inl hm))
 obtain ⟨vs,hv⟩:=hf
 obtain ⟨h1,h2⟩:=hz
 have nc:PySem.W.notCls oe=true:=by unfold PySem.W.notCls; rw [hv]
 rcases hd with e | ⟨dd,fs,e,g⟩
 ·exact ⟨none,h,h1,nc,by rw [h2,e]; trivial⟩
 ·obtain ⟨mA,hns,_⟩:=(show ObjOk X.prog X.w H s.heap dd (.xd fs) from I.hok dd _ g)
  obtain ⟨od,ho,_⟩:=lookIn_ns hns
  exact ⟨some od,h,h1,nc,by rw [h2,e]; exact ho⟩
theorem z83 (hm:(a,oe) ∈ X.pn) (hz:Zc cls d oe) (hf:∃ vs,oe.data=.fields vs):CallR X (.builtin "isinstance") (zaf X.K a cls d):=by
 intro pins s σ H xs us Q I r h
 obtain ⟨D,c,cv,b,ec,C,hd,rfl,hcv,e,q⟩:=h
 subst ec
 obtain ⟨u1,u2,rfl,r1,r2⟩:=vals2 r
 cases (show u1=Value.ref a from r1)
 cases hcv _ r2
 obtain ⟨dd,J⟩:=zbt hm hz hf I hd
 exact PySem.W.kia_one (z9i C) I.kIn J e (fun z=>nomatch z) fun tk=>⟨.bl b,H,I.kept (t':=tk) fun _ _ z=>z,rfl,q⟩
theorem z6s (hm:(a,oe) ∈ X.pn) (hz:Zc cls d oe) (hf:∃ vs,oe.data=.fields vs):CallR X (.builtin "isinstance") (z8j X.K a cls d):=by
 intro pins s σ H xs us Q I r h
 obtain ⟨D,tp,cs,ws,b,ec,C,hd,rfl,hT,k,e,q⟩:=h
 subst ec
 obtain ⟨u1,u2,rfl,r1,r2⟩:=vals2 r
 cases (show u2=Value.ref tp from r2)
 cases (show u1=Value.ref a from r1)
 obtain ⟨_,its,rv,o,h1,h2,n,h3⟩:=(show ObjOk X.prog X.w H s.heap tp (.tup cs) from I.hok tp _ hT)
 have e3:=ClsV.all k rv
 subst e3
 obtain ⟨oc,od,dt,sl⟩:=o
 simp only at h2 h3
 subst h2 h3
 obtain ⟨dd,J⟩:=zbt hm hz hf I hd
 exact PySem.W.kia_tup (z9i C) I.kIn J h1 e (fun z=>nomatch z) fun tk=>⟨.bl b,H,I.kept (t':=tk) fun _ _ z=>z,rfl,q⟩
theorem zha {e:Expr} {te:TE} {pos:Pos} {n:Str} (hm:(a,oe) ∈ X.pn) (hz:Zc cls d oe) (hf:∃ vs,oe.data=.fields vs) (he:PE X e te) (hb:attributeBase e n X.env (eval e X.env)=eval e X.env:=by rfl):PE X (.Attribute e n pos) (tXfg X.K a cls d n te):=by
 refine ⟨fun pins st σ H Q I h=>attr_of hb (thn (he.run pins st σ H _ I h) fun u s1 hh=>?_)⟩
 obtain ⟨x,H1,J1,rx,C,dd,fs,v,ex,ec,T,hno,ed,hx,l,q⟩:=hh
 subst ex ec ed
 cases (show u=Value.ref a from rx)
 obtain ⟨ga,_⟩:=J1.pin (a,oe) (List.mem_append.mpr (.inl hm))
 obtain ⟨mA,hns,hr⟩:=(show ObjOk X.prog X.w H1 s1.heap dd (.xd fs) from J1.hok dd _ hx)
 obtain ⟨od,ho,hl⟩:=lookIn_ns hns
 obtain ⟨w,hw,rw'⟩:=RelO.some_of (v:=v) (o:=mA n) (by rw [<- l]; exact hr n)
 obtain ⟨vs,hv⟩:=hf
 have nc:PySem.W.notCls oe=true:=by unfold PySem.W.notCls; rw [hv]
 have ins:PySem.W.InstAt s1.heap a oe C (some od):=⟨ga,hz.1,nc,by rw [hz.2]; exact ho⟩
 exact HandSPX.exc_get J1.kIn ins T.hg T.hk T.hs (PySem.W.findObj_own T.hd hno rfl (by rw [hl,hw])) (handed_of rw') ⟨v,H1,J1.tok _,rw',q⟩
end
structure ErrsM (K:PySem.W.Frag) (mg:Str->Option Value) (c:Str->Addr) (caught names kinds:List Str):Prop where
 glo:∀ n ∈ names,mg n=some (.ref (c n))
 FellError:mg "FellError"=some (.ref (c "FellError"))
 ve:mg "ValueError"=none
 exc:∀ n ∈ caught,ExcC K (c n)
 exm:∀ n ∈ caught,PySem.W.exmOne K (.ref (c n)) (.ref (c "FellError"))=some true
 kve:∀ n ∈ caught,PySem.W.kitOne K (.ref (c n)) (.type "ValueError")=some true
 kit:∀ n ∈ caught,∀ m ∈ names,PySem.W.kitOne K (.ref (c n)) (.ref (c m))=some (decide (n=m))
 nok:∀ n ∈ kinds,PySem.W.findIn K (.ref (c n)) "kind"=some none
 exo:∀ n ∈ caught,∀ m ∈ names,PySem.W.exmOne K (.ref (c n)) (.ref (c m))=some (decide (n=m))
theorem ErrsM.any {K:PySem.W.Frag} {mg:Str->Option Value} {c:Str->Addr} {caught names kinds:List Str} (T:ErrsM K mg c caught names kinds) {n:Str} (hn:n ∈ caught):∀ {ms:List Str},(∀ m ∈ ms,m ∈ names)->PySem.W.kitAny K (.ref (c n)) (ms.map fun m=>.ref (c m))=some (decide (n ∈ ms))
 | [],_=>by simp [PySem.W.kitAny]
 | m::r,h=>by
  have e:=T.kit n hn m (h m mcs)
  have e2:=T.any hn (ms:=r) fun x hx=>h x (mcm _ hx)
  rw [List.map_cons,PySem.W.kitAny,e]
  by_cases z:n=m
  ·simp [z]
  ·simp [z,e2]
theorem ErrsM.no {K:PySem.W.Frag} {mg:Str->Option Value} {c:Str->Addr} {caught names kinds:List Str} (T:ErrsM K mg c caught names kinds) {n:Str} (hn:n ∈ caught) {ms:List Str} (h:∀ m ∈ ms,m ∈ names) (k:n ∉ ms):PySem.W.kitAny K (.ref (c n)) (ms.map fun m=>.ref (c m))=some false:=(T.any hn h).trans (by rw [decide_eq_false k])
theorem ErrsM.is {K:PySem.W.Frag} {mg:Str->Option Value} {c:Str->Addr} {caught names kinds:List Str} (T:ErrsM K mg c caught names kinds) {n:Str} (hn:n ∈ caught) (h:n ∈ names):PySem.W.kitOne K (.ref (c n)) (.ref (c n))=some true:=(T.kit n hn n h).trans (by rw [decide_eq_true rfl])
def ermB (K:PySem.W.Frag) (c:Str->Addr) (caught names:List Str):Bool:=caught.all fun n=>za6 K (c n)&&(decide (PySem.W.exmOne K (.ref (c n)) (.ref (c "FellError"))=some true)&&(decide (PySem.W.kitOne K (.ref (c n)) (.type "ValueError")=some true)&&names.all fun m=>decide (PySem.W.kitOne K (.ref (c n)) (.ref (c m))=some (decide (n=m)))&&decide (PySem.W.exmOne K (.ref (c n)) (.ref (c m))=some (decide (n=m)))))
theorem zfo {K:PySem.W.Frag} {mg:Str->Option Value} {c:Str->Addr} {caught names kinds:List Str} (h:ermB K c caught names=true) (g:∀ n ∈ names,mg n=some (.ref (c n))) (f:mg "FellError"=some (.ref (c "FellError"))) (v:mg "ValueError"=none) (k:∀ n ∈ kinds,PySem.W.findIn K (.ref (c n)) "kind"=some none):ErrsM K mg c caught names kinds:=by
 have hh:∀ n ∈ caught,za6 K (c n)=true/\PySem.W.exmOne K (.ref (c n)) (.ref (c "FellError"))=some true/\PySem.W.kitOne K (.ref (c n)) (.type "ValueError")=some true/\∀ m ∈ names,PySem.W.kitOne K (.ref (c n)) (.ref (c m))=some (decide (n=m))/\PySem.W.exmOne K (.ref (c n)) (.ref (c m))=some (decide (n=m)):=fun n hn=>by
  have:=List.all_eq_true.mp h n hn
  simp only [Bool.and_eq_true,decide_eq_true_eq,List.all_eq_true] at this
  exact this
 exact ⟨g,f,v,fun n hn=>zcd (hh n hn).1,fun n hn=>(hh n hn).2.1,fun n hn=>(hh n hn).2.2.1,fun n hn m hm=>((hh n hn).2.2.2 m hm).1,k,fun n hn m hm=>((hh n hn).2.2.2 m hm).2⟩
theorem z2s {c:Str->Addr}:∀ ms:List Str,Paired ClsV (ms.map fun m=>V.ref (c m)) (ms.map fun m=>Value.ref (c m))
 | []=>.nil
 | _::r=>.cons (.own _) (z2s r)
def z29:List Value->List Str->Bool
 | [],[]=>true
 | .str z _::r,s::q=>decide (z=s)&&z29 r q
 | _,_=>false
theorem z7u:∀ {us:List Value} {ss:List Str},z29 us ss=true->Vals (ss.map V.str) us
 | [],[],_=>.nil
 | u::r,s::q,h=>by
  cases u with
  | str z t =>
   rw [z29,Bool.and_eq_true,decide_eq_true_eq] at h
   exact .cons ⟨t,by rw [h.1]⟩ (z7u h.2)
  | _=>simp [z29] at h
 | [],s::q,h=>by simp [z29] at h
 | u::r,[],h=>by cases u <;> simp [z29] at h
abbrev Rw:=Pl × Tr × Int
def arE (x:Rw):PyData:=.tuple [z19 x.1,Gr.tEnc x.2.1,.int x.2.2]
instance:Orderly arE where
 al a b:=by simp [arE,alike,alikeAll,Orderly.al (enc:=z19) a.1 b.1,Orderly.al (enc:=Gr.tEnc) a.2.1 b.2.1]
 eq a b:=by
  simp only [arE,PyData.eqv,PyData.eqvAll,Orderly.eq (enc:=z19),Orderly.eq (enc:=Gr.tEnc),Bool.and_true,ib]
  by_cases h:a=b
  ·subst h; simp
  ·rw [decide_eq_false h]
   refine Bool.eq_false_iff.mpr fun z=>h ?_
   simp only [Bool.and_eq_true,decide_eq_true_eq] at z
   exact Prod.ext z.1 (Prod.ext z.2.1 z.2.2)
namespace Lad
theorem enc_inj {l k:Lad} (e:l.enc=k.enc):l=k:=by
 have h:=eqv_enc l k
 rw [<- e,eqv_enc] at h
 by_cases z:l=k
 ·exact z
 ·rw [decide_eq_false z,decide_eq_true rfl] at h; cases h
def maxL (x:Lad) (xs:List Lad):Lad:=xs.foldl (fun a y=>if a.lt y=true then y else a) x
theorem maxL_enc:∀ (xs:List Lad) (x:Lad),maxD x.enc (xs.map enc)=(maxL x xs).enc
 | [],x=>rfl
 | y::r,x=>by
  show maxD (if dataLt x.enc y.enc=true then y.enc else x.enc) (r.map enc)=(maxL (if x.lt y=true then y else x) r).enc
  by_cases h:x.lt y=true
  ·rw [if_pos h,if_pos (show dataLt x.enc y.enc=true from h)]; exact maxL_enc r y
  ·rw [if_neg h,if_neg (show ¬ dataLt x.enc y.enc=true from h)]; exact maxL_enc r x
theorem maxL_mem:∀ (xs:List Lad) (x:Lad),maxL x xs ∈ x::xs
 | [],x=>mcs ..
 | y::r,x=>by
  show maxL (if x.lt y=true then y else x) r ∈ _
  by_cases h:x.lt y=true
  ·rw [if_pos h]; exact mcm _ (maxL_mem r y)
  ·rw [if_neg h]
   rcases List.mem_cons.mp (maxL_mem r x) with e | e
   ·rw [e]; exact mcs ..
   ·exact mcm _ (mcm _ e)
theorem maxL_ge:∀ (xs:List Lad) (x:Lad),∀ y ∈ x::xs,(maxL x xs).lt y=false
 | [],x,y,hy=>by rw [List.mem_singleton.mp hy]; exact lt_irrefl _
 | z::r,x,y,hy=>by
  show (maxL (if x.lt z=true then z else x) r).lt y=false
  by_cases h:x.lt z=true
  ·rw [if_pos h]
   have g:=maxL_ge r z
   rcases List.mem_cons.mp hy with rfl | hy
   ·cases e:(maxL z r).lt y with
    | false=>rfl
    | true =>
     have:=lt_trans _ _ _ e h
     rw [g z (mcs ..)] at this; cases this
   ·exact g y hy
  ·rw [if_neg h]
   have g:=maxL_ge r x
   rcases List.mem_cons.mp hy with rfl | hy
   ·exact g _ (mcs ..)
   rcases List.mem_cons.mp hy with rfl | hy
   ·cases e:(maxL x r).lt y with
    | false=>rfl
    | true =>
     have h:=eq_false_of_ne_true h
     have gx:=g x (mcs ..)
     by_cases e1:x=y
     ·subst e1; rw [gx] at e; cases e
     ·have:=lt_trans _ _ _ e (lt_tri x y e1 h)
      rw [gx] at this; cases this
   ·exact g y (mcm _ hy)
end Lad
section
variable {prog:Program} {w:World} {A:Around} {E:Value->Shared->Prop} {s:Shared}
/-- max of a list: where it stands -/
theorem zgw {l:Addr} {vs:Array Value} {x:PyData} {xs:List PyData} {as:List Addr} {Q:Value->Shared->Prop} (hh:A.handled=none) (hl:s.heap.IsList l vs) (hr:ReadsAll s.heap vs.toList (x::xs) as) (ha:AlikeAll (x::xs)) (hu:A.units+1+PyData.depthAll (x::xs) < cLine)
  (h:∀ (i:Nat) v h' tk,vs[i]?=some v->(x::xs).getD i .none=maxD x xs->(∀ b o,s.heap.get? b=some o->h'.get? b=some o)->Q v { s with heap:=h',toks:=tk }) :
  wpAny (model prog w) A (call (.builtin "max") [.ref l]) Q E s:=by
 have hn:vs.size=xs.length+1:=readsAll_len hr
 refine call_max_walkH (iter_listW (A:=A.in1) hh hl fun s2 e W st hfp hw hk=>?_)
 refine ⟨_,_,_,_,_,_,_,s.heap,_,rfl,W,st,hfp,by omega,hw,hk,cmpIn_gt (A:=A.in1) hr ha (by show A.units+1+_ < _; exact hu),fun v s' hP m=>?_⟩
 obtain ⟨h',tk,rfl,hk'⟩:=moved_old e rfl m
 have e1:vs.size-1=xs.length:=by omega
 have e2:=(argBest_fold (fun a b=>dataLt b a) PyData.none x xs xs.length (Nat.le_refl _)).2
 rw [List.take_length] at e2
 refine h _ v h' tk hP ?_ hk'
 rw [e1]
 unfold maxD
 exact e2
end
/-- max(xs),xs a list of ladders -/
def zj6 (K:PySem.W.Frag):List V->Hp->VK->Prop:=fun vs H Q=>∃ (a:Addr) (xs:List V) (l:Lad) (ls:List Lad),vs=[V.ref a]/\SqL K H a xs/\Bears K H Lad.enc xs (l::ls)/\(∀ k ∈ l::ls,k.deep<=45)/\∀ x:V,LA K H x (Lad.maxL l ls)->Q x H
theorem Vals.at':∀ {vs:List V} {us:List Value} {i:Nat} {u:Value},Vals vs us->us[i]?=some u->∃ v,vs[i]?=some v/\RelV v u
 | _,_,0,u,.cons r _,h=>⟨_,rfl,by have e:=Option.some.inj (show some _=some u from h); subst e; exact r⟩
 | _,_,i+1,u,.cons _ t,h=>Vals.at' (i:=i) t (by simpa using h)
 | _,_,i,u,.nil,h=>by simp at h
theorem zgi {X:Cx} (hc:X.calm=true) (hu:X.A.units+110 < cLine):CallR X (.builtin "max") (zj6 X.K):=by
 intro pins s σ H vs us Q I r h
 obtain ⟨a,xs,l,ls,rfl,hs,hb,hd,q⟩:=h
 obtain ⟨its,rv,hl,_⟩:=I.list hs
 rw [Vals.ref1 r]
 obtain ⟨_,e2⟩:=z5c I hb rv
 obtain ⟨as,ra⟩:=each_readsAll Lad.enc e2
 have al:AlikeAll ((l::ls).map Lad.enc):=⟨fun x hx y hy=>by
  obtain ⟨p,_,rfl⟩:=List.mem_map.mp hx
  obtain ⟨p2,_,rfl⟩:=List.mem_map.mp hy
  exact Lad.alike_enc p p2,fun x hx=>by
  obtain ⟨p,_,rfl⟩:=List.mem_map.mp hx
  exact Lad.enc_ne p⟩
 have hdep:PyData.depthAll ((l::ls).map Lad.enc)<=91:=z2o fun d hd'=>by
  obtain ⟨p,hp,rfl⟩:=List.mem_map.mp hd'
  have:=hd p hp
  have:=Lad.enc_depth p
  omega
 refine zgw (vs:=its.toArray) (x:=l.enc) (xs:=ls.map Lad.enc) (as:=as) (I.ok.hd hc) hl.isList (by simpa using ra) al (by show X.A.units+1+PyData.depthAll ((l::ls).map Lad.enc) < cLine; omega) fun i u h' tk hi e hk=>?_
 obtain ⟨v,ev,rvu⟩:=Vals.at' (i:=i) rv (by simpa using hi)
 obtain ⟨p,ep,hp⟩:=hb.get ev
 have e3:p.enc=(Lad.maxL l ls).enc:=by
  rw [<- Lad.maxL_enc,<- e,show (l.enc::ls.map Lad.enc)=(l::ls).map Lad.enc from rfl,List.getD_eq_getElem?_getD,List.getElem?_map,ep]
  rfl
 have e4:=Lad.enc_inj e3
 exact ⟨v,H,I.kept hk,rvu,q v (by rw [<- e4]; exact hp)⟩
/-- the ladder of a tree,by that of its kind,its width and that of what it holds -/
def lad (w:Bool) (o l:Lad):Lad:=if w=true then Lad.spd o l else Lad.bhd o l
def Bk.wide (b:Bk) (n:Str):Bool:=match b.get n with
 | some k=>k.w
 | none=>false
theorem Bk.wide_get {b:Bk} {n:Str} {k:Kd} (h:b.get n=some k):b.wide n=k.w:=by unfold Bk.wide; rw [h]
namespace Gr
def rkT (b:Bk) (ρ:Str->Lad):Gr->List Lad
 | .nil=>[]
 | .cons k g m r=>Lad.tms (lad (b.wide k) (ρ k) (Lad.bths (rkT b ρ g))) m::rkT b ρ r
def rk (b:Bk) (ρ:Str->Lad) (g:Gr):Lad:=Lad.bths (rkT b ρ g)
def rkt (b:Bk) (ρ:Str->Lad) (t:Tr):Lad:=lad (b.wide t.1) (ρ t.1) (rk b ρ t.2)
variable {b:Bk} {ρ:Str->Lad} {C:Int}
theorem rkT_ps:∀ g:Gr,rkT b ρ g=g.ps.map fun p=>Lad.tms (rkt b ρ p.1) p.2
 | .nil=>rfl
 | .cons k g m r=>by
  show _::rkT b ρ r=_::r.ps.map _
  rw [rkT_ps r]; rfl
theorem rk_ps (g:Gr):rk b ρ g=Lad.bths (g.ps.map fun p=>Lad.tms (rkt b ρ p.1) p.2):=by unfold rk; rw [rkT_ps]
theorem S_bths (ls:List Lad) (x:Lad):Lad.S (Lad.bths ls) x=(ls.map fun l=>Lad.S l x).sum:=by
 have e:Lad.S (Lad.bths ls) x=Lad.sumAt (ls.flatMap Lad.ps) x:=by
  unfold Lad.bths Lad.S
  rw [Lad.ps_ofPs,Lad.sumAt_jn,Lad.sumAt_perm (Lad.dsc_perm _)]
 rw [e]
 clear e
 induction ls with
 | nil=>rfl
 | cons l r ih=>rw [List.flatMap_cons,Lad.sumAt_append,ih]; rfl
theorem S_rk (g:Gr) (x:Lad):Lad.S (rk b ρ g) x=wsum (fun t=>Lad.S (rkt b ρ t) x) g.ps:=by
 rw [rk_ps,S_bths]
 induction g.ps with
 | nil=>rfl
 | cons p r ih =>
  rw [List.map_cons,List.map_cons,List.sum_cons,ih,Lad.S_tms]
  rfl
end Gr
/-- what all those can do with -/
structure LFit (l:Lad):Prop where
 deep:l.deep<=25
 parts:l.parts<=900
 num:∀ p ∈ l.ps,0<=p.2/\p.2 < 2 ^ 2000
/-- the ladders of a grove stay within what all those can do with -/
def Gr.Fit (b:Bk) (ρ:Str->Lad) (ns:List Str):Gr->Prop
 | .nil=>True
 | .cons k g m r=>(k ∈ ns/\k ∈ b.names/\ρ k ≠ .nil/\LFit (ρ k)/\LFit (Gr.rk b ρ g)/\LFit (Gr.rkt b ρ (k,g))/\0<=m/\m < 2 ^ 2000/\((Gr.rkT b ρ (.cons k g m r)).flatMap Lad.ps).length<=900)/\Gr.Fit b ρ ns g/\Gr.Fit b ρ ns r
/-- at d stands a dict: for each of ns,in their order,its ladder -/
def RkD (K:PySem.W.Frag) (H:Hp) (d:Addr) (ρ:Str->Lad) (ns:List Str):Prop:=∃ us:List V,H d=some (.dK (List.zipWith (fun (n:Str) (u:V)=>((Sum.inr n:Key),u)) ns us))/\Bears K H Lad.enc us (ns.map ρ)
theorem za0 {K:PySem.W.Frag} {H:Hp} {ρ:Str->Lad} {n:Str}:∀ {ns:List Str} {us:List V},Bears K H Lad.enc us (ns.map ρ)->n ∈ ns->∃ u,valV (List.zipWith (fun (n:Str) (u:V)=>((Sum.inr n:Key),u)) ns us) (Sum.inr n)=some u/\LA K H u (ρ n)
 | [],_,_,hn=>nomatch hn
 | m::r,us,h,hn=>by
  cases h with
  | @cons u us' _ _ h1 h2 =>
  by_cases e:m=n
  ·subst e
   exact ⟨u,by simp [valV],h1⟩
  ·obtain ⟨v,h3,h4⟩:=za0 h2 (by rcases List.mem_cons.mp hn with z | z; exact absurd z.symm e; exact z)
   refine ⟨v,?_,h4⟩
   rw [List.zipWith_cons_cons]
   unfold valV
   rw [List.find?_cons_of_neg (by simp only [decide_eq_true_eq]; exact fun z=>e (Sum.inr.inj z))]
   exact h3
theorem RkD.val {K:PySem.W.Frag} {H:Hp} {d:Addr} {ρ:Str->Lad} {ns:List Str} {n:Str} (h:RkD K H d ρ ns) (hn:n ∈ ns):∃ u,DGet H d (.str n) (some u)/\LA K H u (ρ n):=by
 obtain ⟨us,h1,h2⟩:=h
 obtain ⟨u,h3,h4⟩:=za0 h2 hn
 exact ⟨u,getK h1 h3,h4⟩
theorem RkD.sb {K:PySem.W.Frag} {H H':Hp} {d:Addr} {ρ:Str->Lad} {ns:List Str} {ps:List Addr} (h:RkD K H d ρ ns) (s:SB ps H H') (hd:d ∉ ps):RkD K H' d ρ ns:=by
 obtain ⟨us,h1,h2⟩:=h
 exact ⟨us,s.keep _ _ h1 hd,h2.sb s Lad.noList_enc⟩
theorem RkD.sb0 {K:PySem.W.Frag} {H H':Hp} {d:Addr} {ρ:Str->Lad} {ns:List Str} (h:RkD K H d ρ ns) (s:SB [] H H'):RkD K H' d ρ ns:=h.sb s nmn
def z7h (K:PySem.W.Frag) (C:Addr):Sp:=fun vs H Q _=>∃ (v u t:V) (b:Bk) (n:Str) (o l:Lad),vs=[v,.str n,u,t]/\BkA K C H v b/\b.length<=1000/\n ∈ b.names/\(LA K H u o/\o ≠ .nil/\LFit o)/\(LA K H t l/\LFit l)/\∀ (x:V) (H':Hp),SB [] H H'->LA K H' x (lad (b.wide n) o l)->Q x H'
def z2x (K:PySem.W.Frag) (C:Addr) (m:Nat):Sp:=fun vs H Q _=>∃ (v t:V) (d:Addr) (b:Bk) (ρ:Str->Lad) (ns:List Str) (k:Str) (g:Gr),vs=[v,.ref d,t]/\BkA K C H v b/\b.length<=1000/\RkD K H d ρ ns/\Dp K H t (Gr.tEnc (k,g))/\g.deep < m/\(k ∈ ns/\k ∈ b.names/\ρ k ≠ .nil/\LFit (ρ k)/\LFit (Gr.rk b ρ g))/\Gr.Fit b ρ ns g/\g.parts<=900/\∀ (x:V) (H':Hp),SB [] H H'->LA K H' x (Gr.rkt b ρ (k,g))->Q x H'
def z31 (K:PySem.W.Frag) (C:Addr) (m:Nat):Sp:=fun vs H Q _=>∃ (v u:V) (d:Addr) (b:Bk) (ρ:Str->Lad) (ns:List Str) (g:Gr),vs=[v,.ref d,u]/\BkA K C H v b/\b.length<=1000/\RkD K H d ρ ns/\GA K H u g/\g.deep < m/\Gr.Fit b ρ ns g/\g.parts<=900/\∀ (x:V) (H':Hp),SB [] H H'->LA K H' x (Gr.rk b ρ g)->Q x H'
theorem zbh {P:Program} {w:World} {K:PySem.W.Frag} {mg:Str->Option Value} {base:Heap} {f:Addr} {fd:FuncData} {C:Addr} {ps:List Str} {k:Nat}:FnOk P w K mg base CX0 k f fd ps (z31 K C 0):=z16 fun vs H Q E ⟨_,_,_,_,_,_,_,_,_,_,_,_,h,_⟩=>by omega
/-- the ladder of a rule -/
def clm (b:Bk) (ρ:Str->Lad) (r:Ru):Lad:=Lad.abv (Gr.rk b ρ r.1) (Gr.rk b ρ r.2)
def RFit (b:Bk) (ρ:Str->Lad) (ns:List Str) (r:Ru):Prop:=Gr.Fit b ρ ns r.1/\Gr.Fit b ρ ns r.2/\(Gr.rk b ρ r.1).deep<=24/\(Gr.rk b ρ r.2).deep<=24/\(Gr.rk b ρ r.1).parts<=390/\(Gr.rk b ρ r.2).parts<=390
def z5f (K:PySem.W.Frag) (C:Addr):Sp:=fun vs H Q _=>∃ (v u:V) (d:Addr) (b:Bk) (ρ:Str->Lad) (ns:List Str) (r:Ru),vs=[v,.ref d,u]/\BkA K C H v b/\b.length<=1000/\RkD K H d ρ ns/\Dp K H u (Ru.enc r)/\r.1.deep < 20/\r.2.deep < 20/\r.1.parts<=900/\r.2.parts<=900/\RFit b ρ ns r/\∀ (x:V) (H':Hp),SB [] H H'->LA K H' x (clm b ρ r)->Q x H'
theorem z4p (b:Bk) (ρ:Str->Lad):clm b ρ (.nil,.nil)=Lad.uno:=by
 show Lad.abv (Gr.rk b ρ .nil) (Gr.rk b ρ .nil)=Lad.uno
 have e:Gr.rk b ρ .nil=.nil:=by
  show Lad.ofPs (jn (Lad.dsc []))=.nil
  have:Lad.dsc []=[]:=List.Perm.eq_nil (Lad.dsc_perm [])
  rw [this]; rfl
 rw [e]
 show Lad.bth .nil Lad.uno=Lad.uno
 rw [Lad.bth_comm]
 exact Lad.bth_nil Lad.uno_ok
theorem z9f (b:Bk) (ρ:Str->Lad) (ns:List Str):RFit b ρ ns (.nil,.nil):=by
 have e:Gr.rk b ρ .nil=.nil:=by
  show Lad.ofPs (jn (Lad.dsc []))=.nil
  have:Lad.dsc []=[]:=List.Perm.eq_nil (Lad.dsc_perm [])
  rw [this]; rfl
 exact ⟨trivial,trivial,by show (Gr.rk b ρ .nil).deep<=24; rw [e]; decide,by show (Gr.rk b ρ .nil).deep<=24; rw [e]; decide,by show (Gr.rk b ρ .nil).parts<=390; rw [e]; decide,by show (Gr.rk b ρ .nil).parts<=390; rw [e]; decide⟩
/-- ρ tells the own rank of each kind that is not endless -/
structure OwnR (b:Bk) (ρ:Str->Lad):Prop where
 own:∀ k ∈ b,EndK b k.n->ρ k.n=Lad.maxL Lad.uno (k.rs.map (clm b ρ))
 fit:∀ k ∈ b,EndK b k.n->∀ ns,(∀ n,n ∈ adj b k.n->n ∈ ns)->∀ r ∈ k.rs,RFit b ρ ns r
 deep:∀ k ∈ b,EndK b k.n->∀ r ∈ k.rs,(clm b ρ r).deep<=45
/-- the kinds that are not endless,each behind those to which it leads -/
structure EndO (b:Bk) (es:List Str):Prop where
 nd:es.Nodup
 len:es.length<=8
 mem:∀ n,n ∈ es ↔ n ∈ b.names/\EndK b n
 ord:∀ (i:Nat) (n:Str),es[i]?=some n->∀ k ∈ adj b n,k ∈ es.take i
def z2m (K:PySem.W.Frag) (C N:Addr):Sp:=fun vs H Q E=>∃ (v:V) (b:Bk),vs=[v]/\BkA K C H v b/\b.Ok/\∀ (l:Addr) (es:List Str) (H':Hp),SB [] H H'->H l=none->H' l=some (.lst (es.map V.str))->EndO b es->Q (.ref l) H'
def z1u (K:PySem.W.Frag) (C N:Addr):Sp:=fun vs H Q _=>∃ (v:V) (b:Bk) (ρ:Str->Lad),vs=[v]/\BkA K C H v b/\b.Ok/\OwnR b ρ/\∀ (d:Addr) (es:List Str) (H':Hp),SB [] H H'->H d=none->RkD K H' d ρ es->EndO b es->Q (.ref d) H'
namespace Gr
variable {b:Bk} {ρ:Str->Lad} {ns:List Str}
theorem Fit.at:∀ {g:Gr},Fit b ρ ns g->∀ p ∈ g.ps,(p.1.1 ∈ ns/\p.1.1 ∈ b.names/\ρ p.1.1 ≠ .nil/\LFit (ρ p.1.1)/\LFit (rk b ρ p.1.2)/\LFit (rkt b ρ p.1)/\0<=p.2/\p.2 < 2 ^ 2000)/\Fit b ρ ns p.1.2
 | .nil,_,p,hp=>nomatch hp
 | .cons k g m r,h,p,hp=>by
  obtain ⟨⟨h1,h2,h3,h4,h5,h6,h7,h8,_⟩,hg,hr⟩:=h
  rcases List.mem_cons.mp hp with rfl | hp
  ·exact ⟨⟨h1,h2,h3,h4,h5,h6,h7,h8⟩,hg⟩
  ·exact Fit.at hr p hp
theorem Fit.len:∀ {g:Gr},Fit b ρ ns g->((rkT b ρ g).flatMap Lad.ps).length<=900
 | .nil,_=>by simp [rkT]
 | .cons k g m r,h=>h.1.2.2.2.2.2.2.2.2
end Gr
theorem Bears.len {K:PySem.W.Frag} {H:Hp} {β:Type} {enc:β->PyData} {us:List V} {bs:List β} (h:Bears K H enc us bs):us.length=bs.length:=h.length
theorem RkD.put {K:PySem.W.Frag} {H:Hp} {d:Addr} {ρ:Str->Lad} {ns:List Str} {n:Str} {x:V} (h:RkD K H d ρ ns) (hn:n ∉ ns) (hl:ns.length<=1000) (hx:LA K H x (ρ n)):∃ H',DPut H d (.str n) x H'/\SB [d] H H'/\RkD K H' d ρ (ns++[n]):=by
 obtain ⟨us,h1,h2⟩:=h
 have szl:=sizeLine_eq
 have ul:us.length=ns.length:=by rw [h2.length,List.length_map]
 have t:=SB.setD (ps:=[d]) h1 (by simp) (.dK (putK (List.zipWith (fun (n:Str) (u:V)=>((Sum.inr n:Key),u)) ns us) (Sum.inr n) x))
 have e:putK (List.zipWith (fun (n:Str) (u:V)=>((Sum.inr n:Key),u)) ns us) (Sum.inr n) x=List.zipWith (fun (n:Str) (u:V)=>((Sum.inr n:Key),u)) (ns++[n]) (us++[x]):=by
  rw [z1i fun p hp z=>?_,List.zipWith_append (by omega)]
  ·rfl
  ·clear t h1 h2 ul
   induction ns generalizing us with
   | nil=>cases hp
   | cons m r ih =>
    cases us with
    | nil=>cases hp
    | cons u us =>
     rw [List.zipWith_cons_cons] at hp
     rcases List.mem_cons.mp hp with rfl | hp
     ·exact hn (List.mem_cons.mpr (.inl (Sum.inr.inj z).symm))
     ·exact ih (fun h=>hn (mcm _ h)) (by simp at hl; omega) us hp
 refine ⟨_,DPut.k (k:=Sum.inr n) h1 (by rw [List.length_zipWith]; omega),t,us++[x],?_,?_⟩
 ·rw [upd_same,e]
 ·rw [List.map_append]
  exact (h2.sb t Lad.noList_enc).append (.cons (LA.sb hx t) .nil)
namespace Lad
theorem deep_le' {n:Nat}:∀ {l:Lad},(∀ p ∈ l.ps,p.1.deep < n)->l.deep<=n
 | .nil,_=>Nat.zero_le _
 | .cons e m r,h=>by
  have h1:=h (e,m) (mcs ..)
  have h2:=deep_le' (l:=r) fun p hp=>h p (mcm _ hp)
  have h1:e.deep < n:=h1
  show max (1+e.deep) r.deep<=n
  omega
end Lad
namespace Gr
variable {n:Str} {b:Bk} {ρ:Str->Lad} {B C:Int}
theorem tdy_self {bs:List (Tr × Int)} (h:bs.Pairwise (fun p q=>p.1 ≠ q.1)):(tdy tEnc bs).Perm bs/\tdy tEnc bs=srtE pEnc bs:=by
 have e:tdy tEnc bs=srtE pEnc bs:=by
  unfold tdy
  exact zdu ((List.Perm.pairwise_iff (fun h=>Ne.symm h) (z0v (enc:=z0j tEnc) bs)).mpr h)
 exact ⟨by rw [e]; exact z0v bs,e⟩
end Gr
theorem Pu.keep {H H':Hp} {p:Addr} {ps:List Addr} (h:Pu H p) (e:SB ps H H') (n:p ∉ ps):Pu H' p:=by
 obtain ⟨x,y,h1,h2⟩:=h
 exact ⟨x,y,e.keep _ _ h1 n,h2⟩
theorem Pu.some {H:Hp} {p:Addr} (h:Pu H p):∀ q ∈ [p],H q ≠ none:=fun q hq z=>by
 obtain ⟨x,y,h1,_⟩:=h
 rw [List.mem_singleton.mp hq,h1] at z
 cases z
section
variable {K:PySem.W.Frag} {H:Hp} {p:Addr} {Q:VK} {σ:L2.St} {i j:Nat} {m:Int}
theorem z52 (hσ:σ[i]?=some (some (.ref p))) (hp:Pu H p) (h1:1<=m) (h2:m < 2 ^ 100) (k:∀ r H',0<=r->r < m->SB [p] H H'->Pu H' p->Q (.int r) H') :
  tCall z13 [] E0 (tCons (tVar i) (tCons (tC (.int m)) tNil)) σ H Q:=⟨_,hσ,p,m,rfl,hp,h1,h2,k⟩
theorem zgc (hσ:σ[i]?=some (some (.ref p))) (hj:σ[j]?=some (some (.int m))) (hp:Pu H p) (h1:1<=m) (h2:m < 2 ^ 100) (k:∀ r H',0<=r->r < m->SB [p] H H'->Pu H' p->Q (.int r) H') :
  tCall z13 [] E0 (tCons (tVar i) (tCons (tVar j) tNil)) σ H Q:=⟨_,hσ,_,hj,p,m,rfl,hp,h1,h2,k⟩
end
theorem zi6 {K:PySem.W.Frag} {H:Hp} {p:Addr} {Q:VK} {σ:L2.St} {jP jL jV k:Nat} {wi:TI} (hk:k<=1000) (h1:∀ x,((wipe σ [jV]).set jV (some x))[jP]?=some (some (.ref p))) (h2:∀ x,((wipe σ [jV]).set jV (some x))[jL]?=some (some (.str abc)))
  (h3:∀ x,wipe ((wipe σ [jV]).set jV (some x)) [jV]=wipe σ [jV]) (hwi:∀ R:It->Hp->Prop,R (Itr 0 k) H->wi σ H R) (hp:Pu H p) (q:∀ z H',SB [p] H H'->Pu H' p->Ltr z k->Q (.str z) H') :
  tM1 (zh5 K) (tC (.str (Str.ofString ""))) (tLc wi (gName jV) tYes (tOp rIxS (tVar jL) (tCall z13 [] E0 (tCons (tVar jP) (tCons (tC (.int 26)) tNil)))) [jV]) σ H Q:=by
 refine ⟨⟨_,rfl⟩,hwi _ fun D hD=>?_⟩
 have pD:p ≠ D:=hp.ne hD
 have szl:=sizeLine_eq
 refine zft walk_range [p] hD hp.some (by omega) (fun i us H2=>Pu H2 p/\∃ cs:List Nat,us=cs.map (fun c=>V.str ⟨#[c]⟩)/\cs.length=i/\∀ c ∈ cs,97<=c/\c<=122) ⟨hp,[],rfl,rfl,by simp⟩ (fun _ _=>trivial) (fun i us H2 H3 e ⟨a,b⟩=>⟨a.keep e (by simpa using pD),b⟩) (fun Pv i x H2 H' us hi s2 y hR hl fin _=>?_) (fun us H2 s2 hD2 hR hl=>?_)
 ·obtain ⟨rfl,rfl⟩:=y
  obtain ⟨hp2,cs,rfl,cl,co⟩:=hR
  refine ⟨h3 _,_,h2 _,?_⟩
  refine z52 (h1 _) hp2 (by decide) (by decide) fun r H3 r0 r26 s3 hp3=>?_
  obtain ⟨n,rfl⟩:∃ n:Nat,r=(n:Int):=⟨r.toNat,by omega⟩
  obtain ⟨c,hc,hco⟩:=zhu n (by omega)
  refine ⟨_,_,c,rfl,rfl,z9p,z6e hc,fin _ _ s3 ⟨hp3,cs++[c],by rw [List.map_append]; rfl,by simp [cl],fun d hd=>?_⟩⟩
  rcases List.mem_append.mp hd with hd | hd
  ·exact co d hd
  ·rw [List.mem_singleton.mp hd]; exact hco
 ·obtain ⟨hp2,cs,rfl,cl,co⟩:=hR
  have e1:(cs.map fun c=>V.str ⟨#[c]⟩)=(cs.map fun c=>(⟨#[c]⟩:Str)).map V.str:=by rw [List.map_map]; rfl
  rw [e1] at hD2
  refine ⟨_,D,cs.map fun c=>⟨#[c]⟩,rfl,rfl,.inl (SqL.of hD2),?_,q _ _ s2 hp2 (by have:=zbr cs co; rw [cl] at this; exact this)⟩
  have:∀ cs:List Nat,((cs.map fun c=>(⟨#[c]⟩:Str)).map (·.length)).sum=cs.length:=by
   intro cs
   induction cs with
   | nil=>rfl
   | cons c r ih=>rw [List.map_cons,List.map_cons,List.sum_cons,ih]; show 1+r.length=r.length+1; omega
  rw [this,List.length_map,cl]
  have:(Str.ofString "").length=0:=by decide +kernel
  rw [this]; omega
theorem z1v {K:PySem.W.Frag} {H:Hp}:∀ ks:List Str,Bears K H PyData.str (ks.map V.str) ks
 | []=>.nil
 | k::r=>.cons (.str k) (z1v r)
/-- some names,unlike ones -/
def z3u (K:PySem.W.Frag):Sp:=fun vs H Q _=>∃ (p:Addr) (m:Nat),vs=[.ref p,.int (m:Int)]/\Pu H p/\1<=m/\m<=8/\∀ (n:Addr) (ks:List Str) (H':Hp),SB [p] H H'->Pu H' p->H n=none->H' n=some (.lst (ks.map V.str))->ks.length=m->(∀ k ∈ ks,z01 k)->ks.Nodup->Q (.ref n) H'
theorem zhh {n:Str} {m:Int} {C:Int} (hn:z01 n) (hm:1<=m) (hC:m < C):(Gr.cons n .nil m .nil).Ok C:=⟨hn,trivial,hm,hC,trivial,by simp [Gr.ps]⟩
theorem z91 (c:Nat):∀ (n:Nat) (b:Array Nat),((List.replicate n (#[c]:Array Nat)).foldl (·++·) b).toList=b.toList++List.replicate n c
 | 0,b=>by simp
 | n+1,b=>by
  rw [List.replicate_succ,List.foldl_cons,z91 c n]
  simp [List.replicate_succ]
theorem mul_one (c n:Nat):(Txt.mul ⟨#[c]⟩ (n:Int)).cps.toList=List.replicate n c:=by
 unfold Txt.mul
 by_cases h1:(n:Int) < 1
 ·rw [if_pos h1]
  have:n=0:=by omega
  subst this; rfl
 ·rw [if_neg h1]
  by_cases h2:((n:Int) == 1 || (⟨#[c]⟩:Str).length == 0)=true
  ·rw [if_pos h2]
   have:n=1:=by
    have e:((⟨#[c]⟩:Str).length == 0)=false:=rfl
    rw [e,Bool.or_false] at h2
    have:=beq_iff_eq.mp h2
    omega
   subst this; rfl
  ·rw [if_neg h2,Int.toNat_natCast]
   exact (z91 c n #[]).trans (by simp)
theorem Ltr.mul {c:Nat} (n:Nat) (h:97<=c/\c<=122):Ltr (Txt.mul ⟨#[c]⟩ (n:Int)) n:=by
 refine ⟨?_,fun x hx=>?_⟩
 ·rw [mul_one]; simp
 ·rw [mul_one] at hx
  rw [List.eq_of_mem_replicate hx]; exact h
def Dr (H:Hp) (p:Addr):Prop:=∃ ns:List Int,H p=some (.lst (ns.map V.int))/\(∀ x ∈ ns,0<=x/\x < 2147483629)/\ns.length<=1000
theorem Dr.keep {H H':Hp} {p:Addr} {ps:List Addr} (h:Dr H p) (e:SB ps H H') (n:p ∉ ps):Dr H' p:=by
 obtain ⟨ns,h1,h2⟩:=h
 exact ⟨ns,e.keep _ _ h1 n,h2⟩
theorem Dr.sb {H H':Hp} {p:Addr} (h:Dr H p) (e:SB [] H H'):Dr H' p:=h.keep e nmn
theorem Dr.ne {H:Hp} {p q:Addr} (h:Dr H p) (n:H q=none):p ≠ q:=by
 obtain ⟨ns,h1,h2⟩:=h
 exact ne_of_none h1 n
theorem Dr.some {H:Hp} {p:Addr} (h:Dr H p):∀ q ∈ [p],H q ≠ none:=fun q hq z=>by
 obtain ⟨ns,h1,_⟩:=h
 rw [List.mem_singleton.mp hq,h1] at z
 cases z
/-- the kinds of a drawn book: few trees in a rule,and unless roundabout by earlier names only -/
structure z9o (ks:List Str) (rounds:Bool) (b:Bk):Prop where
 names:b.names.Perm ks
 nums:∀ k ∈ b,∀ r ∈ k.rs,r.1.Ok (3*10 ^ 8+1)/\r.2.Ok (3*10 ^ 8+1)
 size:∀ k ∈ b,∀ r ∈ k.rs,r.1.parts+r.2.parts<=if ks.length > 3 then 2 else 3
 rules:∀ k ∈ b,k.rs.length<=4
 early:rounds=false->∀ k ∈ b,∀ i,ks[i]?=some k.n->∀ r ∈ k.rs,Gr.Named (ks.take i) r.1/\Gr.Named (ks.take i) r.2
 known:∀ k ∈ b,∀ r ∈ k.rs,Gr.Named ks r.1/\Gr.Named ks r.2
/-- the own rank of a kind,or Endless of it -/
def z2h (K:PySem.W.Frag) (C N EE:Addr):Sp:=fun vs H Q E=>∃ (v:V) (b:Bk) (ρ:Str->Lad) (n:Str),vs=[v,.str n]/\BkA K C H v b/\b.Ok/\OwnR b ρ/\n ∈ b.names/\(EndK b n->∀ (x:V) (H':Hp),SB [] H H'->LA K H' x (ρ n)->Q x H')/\(¬ EndK b n->∀ (d:Addr) (H':Hp),SB [] H H'->H d=none->H' d=some (.xd [("kind",.str n)])->E (.ref EE) (some d) H')
theorem RkD.none {K:PySem.W.Frag} {H:Hp} {d:Addr} {ρ:Str->Lad} {ns:List Str} {n:Str} (h:RkD K H d ρ ns) (hn:n ∉ ns):DGet H d (.str n) none:=by
 obtain ⟨us,h1,h2⟩:=h
 refine .inl ⟨_,Sum.inr n,.inl h1,rfl,?_⟩
 unfold valV
 have:List.find? (fun kv:Key × V=>decide (kv.1=Sum.inr n)) (List.zipWith (fun (n:Str) (u:V)=>((Sum.inr n:Key),u)) ns us)=Option.none:=by
  refine List.find?_eq_none.mpr fun x hx=>?_
  have key:∀ (ns:List Str) (us:List V),x ∈ List.zipWith (fun (n:Str) (u:V)=>((Sum.inr n:Key),u)) ns us->∃ m ∈ ns,x.1=Sum.inr m:=by
   intro ns
   induction ns with
   | nil=>intro us h; cases h
   | cons m r ih =>
    intro us h
    cases us with
    | nil=>cases h
    | cons u us =>
     rw [List.zipWith_cons_cons] at h
     rcases List.mem_cons.mp h with rfl | h
     ·exact ⟨m,mcs ..,rfl⟩
     ·obtain ⟨m',h1,h2⟩:=ih us h
      exact ⟨m',mcm _ h1,h2⟩
  obtain ⟨m,hm,e⟩:=key ns us hx
  rw [e]
  simp only [decide_eq_true_eq]
  exact fun z=>hn (by rw [<- Sum.inr.inj z]; exact hm)
 rw [this]; rfl
theorem z9j (f:Tr × Int->Bool):∀ bs:List (Tr × Int),Gr.tot (bs.filter f)<=Gr.tot bs
 | []=>Nat.le_refl _
 | x::r=>by
  have ih:=z9j f r
  cases hf:f x with
  | true =>
   rw [List.filter_cons_of_pos hf]
   show 1+x.1.2.parts+Gr.tot (r.filter f)<=1+x.1.2.parts+Gr.tot r
   omega
  | false =>
   rw [List.filter_cons_of_neg (by simp [hf])]
   show _<=1+x.1.2.parts+Gr.tot r
   omega
theorem KdAll.cut {K:PySem.W.Frag} {H:Hp} {bad:List Addr}:∀ (n:Nat) {vs:List V} {b:Bk},KdAll K H bad vs b->KdAll K H bad (vs.take n) (b.take n)/\KdAll K H bad (vs.drop n) (b.drop n)
 | 0,_,_,h=>⟨.nil,h⟩
 | n+1,_,_,.nil=>⟨.nil,.nil⟩
 | n+1,_,_,.cons a t=>⟨.cons a (KdAll.cut n t).1,(KdAll.cut n t).2⟩
theorem KdAll.more {K:PySem.W.Frag} {H:Hp} {bad:List Addr} {R:Addr} (hR:H R=none):∀ {vs:List V} {b:Bk},KdAll K H bad vs b->KdAll K H (R::bad) vs b
 | _,_,.nil=>.nil
 | _,_,.cons a t=>by
  obtain ⟨t1,l,zs,e,h1,h2,h3,h4⟩:=a
  refine .cons ⟨t1,l,zs,e,h1,h2,h3,fun z=>?_⟩ (KdAll.more hR t)
  rcases List.mem_cons.mp z with z | z
  ·rw [z,hR] at h2; cases h2
  ·exact h4 z
theorem z05 (n:Nat):(1:Int)<=2 ^ n:=by
 have:(0:Int) < 2 ^ n:=Int.pow_pos (by decide)
 omega
theorem z08 {a b:Nat} (h:a<=b):(2:Int) ^ a<=2 ^ b:=by
 obtain ⟨k,rfl⟩:=Nat.le.dest h
 rw [Int.pow_add]
 have h1:=z05 a
 have h2:=z05 k
 have:=Int.mul_le_mul_of_nonneg_left h2 (show (0:Int)<=2 ^ a by omega)
 omega
theorem z0m (a:Nat):(2:Int) ^ (a+1)=2*2 ^ a:=by rw [Int.pow_succ]; omega
namespace Lad
theorem lad_ok {B C:Int} {w:Bool} {o l:Lad} (ho:o.Ok B) (hl:l.Ok C) (hB:1<=B) (hC:1<=C):(lad w o l).Ok (B+C):=by
 unfold lad
 cases w with
 | false=>exact bhd_ok ho hl hB hC
 | true =>
  rw [if_pos rfl]
  cases o with
  | nil =>
   cases l with
   | nil=>trivial
   | cons e m r=>exact hl.mono (by omega)
  | cons e m r =>
   cases l with
   | nil=>exact ho.mono (by omega)
   | cons e2 m2 r2 =>
    show (Lad.cons (bhd e (.cons e2 m2 r2)) 1 .nil).Ok _
    exact ⟨bhd_ok ho.1 hl hB hC,by decide,by omega,trivial,by simp [ps]⟩
theorem lad_parts (w:Bool) (o l:Lad):(lad w o l).parts<=o.parts+l.parts:=by
 unfold lad
 cases w with
 | false=>exact bhd_parts o l
 | true =>
  rw [if_pos rfl]
  cases o with
  | nil=>cases l <;> simp [spd,parts]
  | cons e m r =>
   cases l with
   | nil=>show (Lad.cons e m r).parts<=_; omega
   | cons e2 m2 r2 =>
    have:=bhd_parts e (.cons e2 m2 r2)
    show 1+(bhd e (.cons e2 m2 r2)).parts+0<=1+e.parts+r.parts+_
    omega
theorem lad_deep {w:Bool} {o l:Lad} {n:Nat} (ho:o.deep<=n) (hl:l.deep<=n):(lad w o l).deep<=n+1:=by
 unfold lad
 cases w with
 | false=>exact Nat.le_succ_of_le (bhd_deep ho hl)
 | true =>
  rw [if_pos rfl]
  cases o with
  | nil=>cases l with
   | nil=>exact Nat.zero_le _
   | cons e m r=>exact Nat.le_succ_of_le hl
  | cons e m r =>
   cases l with
   | nil=>exact Nat.le_succ_of_le ho
   | cons e2 m2 r2 =>
    have he:e.deep<=n:=by
     have:max (1+e.deep) r.deep<=n:=ho
     omega
    have:=bhd_deep he hl
    show max (1+(bhd e (.cons e2 m2 r2)).deep) 0<=n+1
    omega
/-- all of some ladders together is a right one -/
theorem bths_ok {ls:List Lad} {B D:Int} (h:∀ l ∈ ls,l.Ok B) (hB:0<=B) (hD:B<=D) (hs:∀ x,(ls.map fun l=>S l x).sum < D):(bths ls).Ok D:=by
 have hd:(jn (dsc (ls.flatMap ps))).Pairwise (fun p q=>q.1.lt p.1=true):=jn_desc (dsc_keys _)
 show (ofPs (jn (dsc (ls.flatMap ps)))).Ok D
 rw [ok_ps]
 refine ⟨fun p hp=>?_,hd⟩
 have hnd:∀ (bs:List (Lad × Int)),bs.Pairwise (fun p q=>q.1.lt p.1=true)->∀ p ∈ bs,sumAt bs p.1=p.2:=by
  intro bs
  induction bs with
  | nil=>intro _ p hp; cases hp
  | cons q r ih =>
   intro hpw p hp
   obtain ⟨e,m⟩:=q
   obtain ⟨h1,h2⟩:=List.pairwise_cons.mp hpw
   rw [sumAt_cons]
   rcases List.mem_cons.mp hp with hp | hp
   ·subst hp
    rw [if_pos rfl,sumAt_zero fun q hq=>lt_ne (h1 q hq)]
    omega
   ·rw [if_neg (fun z=>lt_ne (h1 p hp) z.symm),ih h2 p hp]
    omega
 have e1:sumAt (jn (dsc (ls.flatMap ps))) p.1=p.2:=hnd _ hd p hp
 have e2:p.2=(ls.map fun l=>S l p.1).sum:=by
  rw [<- e1,<- Gr.S_bths]
  show _=sumAt (bths ls).ps p.1
  unfold bths
  rw [ps_ofPs]
 obtain ⟨q,hq,eq⟩:=z22 _ p hp
 have hq':=(dsc_perm _).mem_iff.mp hq
 obtain ⟨l,hl,hql⟩:=List.mem_flatMap.mp hq'
 have qo:=(ok_iff.mp (h l hl)).1 q hql
 have pos:∀ (ks:List Lad),(∀ l ∈ ks,l.Ok B)->0<=(ks.map fun l=>S l p.1).sum/\∀ l ∈ ks,S l p.1<=(ks.map fun l=>S l p.1).sum:=by
  intro ks
  induction ks with
  | nil=>intro _; exact ⟨Int.le_refl _,fun l hl=>nomatch hl⟩
  | cons k r ih =>
   intro hk
   obtain ⟨i1,i2⟩:=ih fun l hl=>hk l (mcm _ hl)
   have n1:=S_nonneg (hk k (mcs ..)) p.1
   rw [List.map_cons,List.sum_cons]
   refine ⟨by omega,fun l hl=>?_⟩
   rcases List.mem_cons.mp hl with rfl | hl
   ·omega
   ·have:=i2 l hl; omega
 have s1:=(pos ls h).2 l hl
 have s2:S l p.1=q.2:=by rw [<- eq]; exact S_mem (h l hl) hql
 have s3:=hs p.1
 refine ⟨?_,by omega,by omega⟩
 rw [<- eq]; exact qo.1.mono hD
theorem bths_parts (ls:List Lad):(bths ls).parts<=(ls.map parts).sum:=by
 have e:∀ ls:List Lad,tot (ls.flatMap ps)=(ls.map parts).sum:=by
  intro ls
  induction ls with
  | nil=>rfl
  | cons l r ih =>
   rw [List.flatMap_cons,tot_append,ih,List.map_cons,List.sum_cons]
   have:tot l.ps=l.parts:=by
    have:=parts_ofPs l.ps
    rw [ofPs_ps] at this; exact this.symm
   rw [this]
 show (ofPs (jn (dsc (ls.flatMap ps)))).parts<=_
 rw [parts_ofPs,<- e]
 exact Nat.le_trans (tot_jn _) (Nat.le_of_eq (tot_perm (dsc_perm _)))
theorem bths_deep {ls:List Lad} {n:Nat} (h:∀ l ∈ ls,l.deep<=n):(bths ls).deep<=n:=by
 refine deep_le' fun p hp=>?_
 unfold bths at hp
 rw [ps_ofPs] at hp
 obtain ⟨q,hq,e⟩:=z22 _ p hp
 obtain ⟨l,hl,hql⟩:=List.mem_flatMap.mp ((dsc_perm _).mem_iff.mp hq)
 have:=l.mem_deep q hql
 have:=h l hl
 rw [<- e]; omega
end Lad
namespace Gr
variable {b:Bk} {ρ σ:Str->Lad} {C:Int} {ns:List Str}
theorem rk_nil:rk b ρ .nil=.nil:=by
 show Lad.ofPs (jn (Lad.dsc []))=.nil
 have:Lad.dsc []=[]:=List.Perm.eq_nil (Lad.dsc_perm [])
 rw [this]; rfl
theorem rkT_congr:∀ {g:Gr},(∀ x ∈ g.within,ρ x.1.1=σ x.1.1)->rkT b ρ g=rkT b σ g
 | .nil,_=>rfl
 | .cons k g m r,h=>by
  have e1:=h ((k,g),m) (mcs ..)
  have e2:=rkT_congr (g:=g) fun x hx=>h x (mcm _ (mal _ hx))
  have e3:=rkT_congr (g:=r) fun x hx=>h x (mcm _ (mar _ hx))
  show Lad.tms (lad (b.wide k) (ρ k) (Lad.bths (rkT b ρ g))) m::rkT b ρ r=_::rkT b σ r
  rw [e2,e3,show ρ k=σ k from e1]
theorem rk_congr {g:Gr} (h:∀ x ∈ g.within,ρ x.1.1=σ x.1.1):rk b ρ g=rk b σ g:=by unfold rk; rw [rkT_congr h]
/-- how great the ladder of a grove is,by those of its kinds -/
theorem rk_size {P D:Nat} (hk:∀ n ∈ ns,(ρ n).parts<=P/\(ρ n).deep<=D):∀ {g:Gr},Named ns g->((rkT b ρ g).map Lad.parts).sum<=P*g.parts/\∀ l ∈ rkT b ρ g,l.deep<=D+g.deep
 | .nil,_=>And.intro (Nat.zero_le _) (fun l hl=>nomatch hl)
 | .cons k g m r,h=>by
  have hkn:k ∈ ns:=h ((k,g),m) (mcs ..)
  obtain ⟨g1,g2⟩:=rk_size hk (g:=g) fun x hx=>h x (mcm _ (mal _ hx))
  obtain ⟨r1,r2⟩:=rk_size hk (g:=r) fun x hx=>h x (mcm _ (mar _ hx))
  obtain ⟨k1,k2⟩:=hk k hkn
  have ip:(Lad.bths (rkT b ρ g)).parts<=P*g.parts:=Nat.le_trans (Lad.bths_parts _) g1
  have idp:(Lad.bths (rkT b ρ g)).deep<=D+g.deep:=Lad.bths_deep g2
  have lp:=Lad.lad_parts (b.wide k) (ρ k) (Lad.bths (rkT b ρ g))
  have tp:=Lad.tms_parts (lad (b.wide k) (ρ k) (Lad.bths (rkT b ρ g))) m
  have ld:=Lad.lad_deep (w:=b.wide k) (o:=ρ k) (l:=Lad.bths (rkT b ρ g)) (n:=D+g.deep) (by omega) idp
  have e1:(Gr.cons k g m r).parts=1+g.parts+r.parts:=rfl
  have e2:(Gr.cons k g m r).deep=max (1+g.deep) r.deep:=rfl
  refine ⟨?_,fun l hl=>?_⟩
  ·show (Lad.tms (lad (b.wide k) (ρ k) (Lad.bths (rkT b ρ g))) m).parts+((rkT b ρ r).map Lad.parts).sum<=_
   rw [e1,Nat.mul_add,Nat.mul_add,Nat.mul_one]
   omega
  ·rw [e2]
   rcases List.mem_cons.mp hl with rfl | hl
   ·have:=Lad.tms_deep (n:=D+g.deep+1) m ld
    omega
   ·have:=r2 l hl; omega
theorem rk_nums {x:Nat} (hk:∀ n ∈ ns,(ρ n).Ok (2 ^ x)):∀ {g:Gr},Named ns g->g.Ok (2 ^ 29)->(∀ l ∈ rkT b ρ g,l.Ok (2 ^ (x+31*g.parts)))/\∀ y,((rkT b ρ g).map fun l=>Lad.S l y).sum < 2 ^ (x+31*g.parts)
 | .nil,_,_=>And.intro (fun l hl=>nomatch hl) (fun y=>by
  show (0:Int) < _
  have:=z05 (x+31*Gr.nil.parts); omega)
 | .cons k g m r,h,ho=>by
  obtain ⟨_,hg,hm1,hm2,hr,_⟩:=ho
  have hkn:k ∈ ns:=h ((k,g),m) (mcs ..)
  obtain ⟨g1,g2⟩:=rk_nums hk (g:=g) (fun x hx=>h x (mcm _ (mal _ hx))) hg
  obtain ⟨r1,r2⟩:=rk_nums hk (g:=r) (fun x hx=>h x (mcm _ (mar _ hx))) hr
  have e1:(Gr.cons k g m r).parts=1+g.parts+r.parts:=rfl
  have p0:=z05 (x+31*g.parts)
  have px:=z05 x
  have io:(Lad.bths (rkT b ρ g)).Ok (2 ^ (x+31*g.parts)):=Lad.bths_ok g1 (by omega) (Int.le_refl _) g2
  have lo:=Lad.lad_ok (w:=b.wide k) (hk k hkn) io px p0
  have m1:=z08 (show x<=x+31*g.parts by omega)
  have lo2:(lad (b.wide k) (ρ k) (Lad.bths (rkT b ρ g))).Ok (2 ^ (x+31*g.parts+1)):=lo.mono (by rw [z0m]; omega)
  have to:=Lad.tms_ok lo2 (show 0<=m by omega)
  have q0:=z05 (x+31*g.parts+1)
  have hb:2 ^ (x+31*g.parts+1)*m+2 ^ (x+31*g.parts+1)<=2 ^ (x+31*g.parts+30):=by
   have:(2:Int) ^ (x+31*g.parts+30)=2 ^ (x+31*g.parts+1)*2 ^ 29:=by rw [<- Int.pow_add]
   rw [this]
   have h2:(2:Int) ^ (x+31*g.parts+1)*(m+1)<=2 ^ (x+31*g.parts+1)*2 ^ 29:=Int.mul_le_mul_of_nonneg_left (by omega) (by omega)
   rw [Int.mul_add,Int.mul_one] at h2
   exact h2
  have to2:=to.mono hb
  have w1:=z08 (show x+31*g.parts+30<=x+31*(1+g.parts+r.parts)-1 by omega)
  have w2:=z08 (show x+31*r.parts<=x+31*(1+g.parts+r.parts)-1 by omega)
  have w3:=z0m (x+31*(1+g.parts+r.parts)-1)
  rw [show x+31*(1+g.parts+r.parts)-1+1=x+31*(1+g.parts+r.parts) by omega] at w3
  have w0:=z05 (x+31*(1+g.parts+r.parts)-1)
  rw [e1]
  refine ⟨fun l hl=>?_,fun y=>?_⟩
  ·rcases List.mem_cons.mp hl with rfl | hl
   ·exact to2.mono (by omega)
   ·exact (r1 l hl).mono (by omega)
  ·show Lad.S (Lad.tms (lad (b.wide k) (ρ k) (Lad.bths (rkT b ρ g))) m) y+((rkT b ρ r).map fun l=>Lad.S l y).sum < _
   have s2:=r2 y
   have s3:Lad.S (Lad.tms (lad (b.wide k) (ρ k) (Lad.bths (rkT b ρ g))) m) y < 2 ^ (x+31*g.parts+30)\/Lad.S (Lad.tms (lad (b.wide k) (ρ k) (Lad.bths (rkT b ρ g))) m) y<=0:=by
    rcases Lad.S_cases to2 y with ⟨h1,_⟩ | ⟨mm,_,h2,_,h4⟩
    ·right; omega
    ·left; omega
   have w4:=z05 (x+31*g.parts+30)
   rcases s3 with s3 | s3 <;> omega
end Gr
namespace Gr
variable {b:Bk} {ρ:Str->Lad} {ns:List Str}
/-- fit,by how great the ladders of the kinds are -/
theorem rk_fit {P D x:Nat} (hk:∀ n ∈ ns,n ∈ b.names/\ρ n ≠ .nil/\(ρ n).parts<=P/\(ρ n).deep<=D/\(ρ n).Ok (2 ^ x)) (hP:1<=P):∀ {g:Gr},Named ns g->g.Ok (2 ^ 29)->P*g.parts<=390->D+g.deep<=24->x+31*g.parts<=2000->Fit b ρ ns g
 | .nil,_,_,_,_,_=>trivial
 | .cons k g m r,h,ho,hp,hd,hx=>by
  have hP':∀ n ∈ ns,(ρ n).parts<=P/\(ρ n).deep<=D:=fun n hn=>⟨(hk n hn).2.2.1,(hk n hn).2.2.2.1⟩
  have hX':∀ n ∈ ns,(ρ n).Ok (2 ^ x):=fun n hn=>(hk n hn).2.2.2.2
  have nm:2 ^ 29<=(2:Int) ^ 2000:=z08 (by decide)
  obtain ⟨hkn,hnn⟩:k ∈ ns/\(Named ns g/\Named ns r):=⟨h ((k,g),m) (mcs ..),fun x hx=>h x (mcm _ (mal _ hx)),fun x hx=>h x (mcm _ (mar _ hx))⟩
  obtain ⟨ok0,hg,hm1,hm2,hr,hrise⟩:=ho
  have ho:(Gr.cons k g m r).Ok (2 ^ 29):=⟨ok0,hg,hm1,hm2,hr,hrise⟩
  have e1:(Gr.cons k g m r).parts=1+g.parts+r.parts:=rfl
  have e2:(Gr.cons k g m r).deep=max (1+g.deep) r.deep:=rfl
  rw [e1,Nat.mul_add,Nat.mul_add,Nat.mul_one] at hp
  rw [e1] at hx
  obtain ⟨s1,s2⟩:=rk_size hP' h
  obtain ⟨g1,g2⟩:=rk_size hP' hnn.1
  obtain ⟨n1,n2⟩:=rk_nums hX' hnn.1 hg
  have p0:=z05 (x+31*g.parts)
  have px:=z05 x
  have io:(Lad.bths (rkT b ρ g)).Ok (2 ^ (x+31*g.parts)):=Lad.bths_ok n1 (by omega) (Int.le_refl _) n2
  have lo:=(Lad.lad_ok (w:=b.wide k) (hX' k hkn) io px p0)
  have m1:=z08 (show x<=x+31*g.parts by omega)
  have m2:=z08 (show x+31*g.parts+1<=2000 by omega)
  have m3:=z0m (x+31*g.parts)
  obtain ⟨kb,kne,kp,kd,kx⟩:=hk k hkn
  have num:∀ {l:Lad},l.Ok (2 ^ 2000)->∀ p ∈ l.ps,0<=p.2/\p.2 < 2 ^ 2000:=fun hl p hp=>by
   have:=(Lad.ok_iff.mp hl).1 p hp
   exact ⟨by omega,this.2.2⟩
  have ip:(Lad.bths (rkT b ρ g)).parts<=P*g.parts:=Nat.le_trans (Lad.bths_parts _) g1
  have idp:(Lad.bths (rkT b ρ g)).deep<=D+g.deep:=Lad.bths_deep g2
  have lp:=Lad.lad_parts (b.wide k) (ρ k) (Lad.bths (rkT b ρ g))
  have ld:=Lad.lad_deep (w:=b.wide k) (o:=ρ k) (l:=Lad.bths (rkT b ρ g)) (n:=D+g.deep) (by omega) idp
  refine ⟨⟨hkn,kb,kne,⟨by omega,by omega,num (kx.mono (by omega))⟩,⟨by show (Lad.bths (rkT b ρ g)).deep<=25; omega,by show (Lad.bths (rkT b ρ g)).parts<=900; omega,num (io.mono (by omega))⟩,⟨by show (lad (b.wide k) (ρ k) (Lad.bths (rkT b ρ g))).deep<=25; omega,by show (lad (b.wide k) (ρ k) (Lad.bths (rkT b ρ g))).parts<=900; omega,num (lo.mono (by omega))⟩,by omega,by omega,?_⟩,rk_fit hk hP hnn.1 hg (by omega) (by omega) (by omega),rk_fit hk hP hnn.2 hr (by omega) (by omega) (by omega)⟩
  have key:∀ ls:List Lad,(ls.flatMap Lad.ps).length<=(ls.map Lad.parts).sum:=by
   intro ls
   induction ls with
   | nil=>exact Nat.le_refl _
   | cons l r ih =>
    rw [List.flatMap_cons,List.length_append,List.map_cons,List.sum_cons,Lad.ps_length]
    have:=l.len_parts
    omega
  have:=key (rkT b ρ (.cons k g m r))
  rw [e1,Nat.mul_add,Nat.mul_add,Nat.mul_one] at s1
  exact Nat.le_trans (Nat.le_trans this s1) (by omega)
end Gr
theorem z0a {rs:List Ru} {r:Ru} (hr:r ∈ rs) {x:Tr × Int} (hx:x ∈ Ru.within r):x.1.1 ∈ ledR rs:=List.mem_flatMap.mpr ⟨r,hr,List.mem_map.mpr ⟨x,hx,rfl⟩⟩
theorem z7o {b:Bk} {ρ σ:Str->Lad} {r:Ru} (h:∀ x ∈ Ru.within r,ρ x.1.1=σ x.1.1):clm b ρ r=clm b σ r:=by
 unfold clm
 rw [Gr.rk_congr fun x hx=>h x (mal _ hx),Gr.rk_congr fun x hx=>h x (mar _ hx)]
def Bk.rules (b:Bk) (n:Str):List Ru:=match b.get n with
 | some k=>k.rs
 | none=>[]
def z37 (b:Bk) (k n:Str):Prop:=k ∈ adj b n/\EndK b n
theorem zca (b:Bk):WellFounded (z37 b):=by
 have h1:∀ n,EndK b n->Acc (z37 b) n:=fun n h=>by
  induction h with
  | mk _ ih=>exact ⟨_,fun y hy=>ih y hy.1⟩
 exact ⟨fun n=>⟨n,fun y hy=>h1 y (hy.2.next hy.1)⟩⟩
open Classical in
noncomputable def ownF (b:Bk) (n:Str) (rec:∀ k,z37 b k n->Lad):Lad:=Lad.maxL Lad.uno ((b.rules n).map (clm b fun k=>if h:z37 b k n then rec k h else Lad.uno))
noncomputable def z02 (b:Bk):Str->Lad:=(zca b).fix (ownF b)
theorem z2d {b:Bk} (ok:b.Ok) {k:Kd} (hk:k ∈ b) (he:EndK b k.n):z02 b k.n=Lad.maxL Lad.uno (k.rs.map (clm b (z02 b))):=by
 unfold z02
 rw [WellFounded.fix_eq]
 unfold ownF
 have er:b.rules k.n=k.rs:=by unfold Bk.rules; rw [Bk.get_self ok.nd hk]
 rw [er]
 congr 1
 refine List.map_congr_left fun r hr=>z7o fun x hx=>?_
 have hl:z37 b x.1.1 k.n:=⟨by rw [z0p ok hk]; exact z0a hr hx,he⟩
 rw [dif_pos hl]
theorem Gr.Fit.mono {b:Bk} {ρ:Str->Lad} {ns ms:List Str} (h:∀ n ∈ ns,n ∈ ms):∀ {g:Gr},Gr.Fit b ρ ns g->Gr.Fit b ρ ms g
 | .nil,_=>trivial
 | .cons k g m r,hf=>by
  obtain ⟨⟨h1,h2,h3,h4,h5,h6,h7,h8,h9⟩,hg,hr⟩:=hf
  exact ⟨⟨h _ h1,h2,h3,h4,h5,h6,h7,h8,h9⟩,Gr.Fit.mono h hg,Gr.Fit.mono h hr⟩
theorem z2j {α:Type} {p q:α->Bool}:∀ {l:List α},(∀ x ∈ l,p x=true->q x=true)->(∃ x ∈ l,q x=true/\p x=false)->(l.filter p).length < (l.filter q).length
 | [],_,⟨x,hx,_⟩=>nomatch hx
 | a::r,h,⟨x,hx,hq,hp⟩=>by
  have hr:∀ x ∈ r,p x=true->q x=true:=fun y hy=>h y (mcm _ hy)
  have le:∀ l:List α,(∀ x ∈ l,p x=true->q x=true)->(l.filter p).length<=(l.filter q).length:=by
   intro l
   induction l with
   | nil=>intro _; exact Nat.le_refl _
   | cons c s ih =>
    intro hc
    have:=ih fun y hy=>hc y (mcm _ hy)
    cases hpc:p c with
    | true =>
     rw [List.filter_cons_of_pos hpc,List.filter_cons_of_pos (hc c (mcs ..) hpc)]
     simpa using this
    | false =>
     rw [List.filter_cons_of_neg (by simp [hpc])]
     cases hqc:q c with
     | true=>rw [List.filter_cons_of_pos hqc,List.length_cons]; omega
     | false=>rw [List.filter_cons_of_neg (by simp [hqc])]; exact this
  rcases List.mem_cons.mp hx with rfl | hx
  ·rw [List.filter_cons_of_neg (by simp [hp]),List.filter_cons_of_pos hq,List.length_cons]
   have:=le r hr
   omega
  ·have ih:=z2j hr ⟨x,hx,hq,hp⟩
   cases hpc:p a with
   | true =>
    rw [List.filter_cons_of_pos hpc,List.filter_cons_of_pos (h a (mcs ..) hpc)]
    simpa using ih
   | false =>
    rw [List.filter_cons_of_neg (by simp [hpc])]
    cases hqc:q a with
    | true=>rw [List.filter_cons_of_pos hqc,List.length_cons]; omega
    | false=>rw [List.filter_cons_of_neg (by simp [hqc])]; exact ih
open Classical in
/-- to how many kinds one comes from a kind -/
noncomputable def cntR (b:Bk) (n:Str):Nat:=(b.names.filter fun k=>decide (Rch b n k)).length
theorem z30 {b:Bk} (ok:b.Ok) {n k:Str} (he:EndK b n) (hk:k ∈ adj b n):cntR b k < cntR b n:=by
 refine z2j (fun x _ hx=>?_) ⟨k,z0k ok hk,?_,?_⟩
 ·simp only [decide_eq_true_eq] at hx ⊢
  exact Rch.cons hk hx
 ·simp only [decide_eq_true_eq]; exact .one hk
 ·simp only [decide_eq_false_iff_not]; exact (he.next hk).noring
theorem z6k {b:Bk} {n:Str} (he:EndK b n) (hn:n ∈ b.names):cntR b n < b.length:=by
 have h:=z2j (p:=fun k=>@decide (Rch b n k) (Classical.propDecidable _)) (q:=fun _=>true) (l:=b.names) (fun _ _ _=>rfl) ⟨n,hn,rfl,by simp only [decide_eq_false_iff_not]; exact he.noring⟩
 have e:(b.names.filter fun _=>true).length=b.length:=by rw [List.filter_eq_self.mpr (fun _ _=>rfl),List.length_map]
 rw [e] at h
 exact h
def Pm (m:Nat):Nat->Nat
 | 0=>2
 | c+1=>m*Pm m c+2
theorem zbi (m:Nat):∀ c,2<=Pm m c
 | 0=>Nat.le_refl _
 | c+1=>Nat.le_add_left _ _
structure Bnd (m c:Nat) (l:Lad):Prop where
 ne:l ≠ .nil
 parts:l.parts<=Pm m c
 deep:l.deep<=2+m*c
 ok:l.Ok (2 ^ (2+(31*m+2)*c))
theorem z78 {b:Bk} {ρ:Str->Lad} {ns:List Str} {P D x m:Nat} {r:Ru} (hk:∀ n ∈ ns,(ρ n).parts<=P/\(ρ n).deep<=D) (hx:∀ n ∈ ns,(ρ n).Ok (2 ^ x)) (h1:Gr.Named ns r.1) (h2:Gr.Named ns r.2) (o1:r.1.Ok (2 ^ 29)) (o2:r.2.Ok (2 ^ 29)) (hs:r.1.parts+r.2.parts<=m) (hD:2<=D) :
  (clm b ρ r).parts<=m*P+2/\(clm b ρ r).deep<=D+m/\(clm b ρ r).Ok (2 ^ (x+31*m+2))/\(Gr.rk b ρ r.1).deep<=D+m/\(Gr.rk b ρ r.2).deep<=D+m/\(Gr.rk b ρ r.1).parts<=m*P/\(Gr.rk b ρ r.2).parts<=m*P:=by
 obtain ⟨a1,a2⟩:=Gr.rk_size (b:=b) hk h1
 obtain ⟨b1,b2⟩:=Gr.rk_size (b:=b) hk h2
 obtain ⟨c1,c2⟩:=Gr.rk_nums (b:=b) hx h1 o1
 obtain ⟨d1,d2⟩:=Gr.rk_nums (b:=b) hx h2 o2
 have w1:=z07 r.1
 have w2:=z07 r.2
 have p1:(Gr.rk b ρ r.1).parts<=P*r.1.parts:=Nat.le_trans (Lad.bths_parts _) a1
 have p2:(Gr.rk b ρ r.2).parts<=P*r.2.parts:=Nat.le_trans (Lad.bths_parts _) b1
 have q1:(Gr.rk b ρ r.1).deep<=D+r.1.deep:=Lad.bths_deep a2
 have q2:(Gr.rk b ρ r.2).deep<=D+r.2.deep:=Lad.bths_deep b2
 have e1:=z05 (x+31*r.1.parts)
 have e2:=z05 (x+31*r.2.parts)
 have k1:(Gr.rk b ρ r.1).Ok (2 ^ (x+31*r.1.parts)):=Lad.bths_ok c1 (by omega) (Int.le_refl _) c2
 have k2:(Gr.rk b ρ r.2).Ok (2 ^ (x+31*r.2.parts)):=Lad.bths_ok d1 (by omega) (Int.le_refl _) d2
 have ko:=Lad.abv_ok k1 k2 e1 e2
 have hm:P*r.1.parts+P*r.2.parts<=m*P:=by
  rw [<- Nat.mul_add,Nat.mul_comm m P]
  exact Nat.mul_le_mul_left _ hs
 have ap:=Lad.abv_parts (Gr.rk b ρ r.1) (Gr.rk b ρ r.2)
 have ad:=Lad.abv_deep (n:=D+m) (l:=Gr.rk b ρ r.1) (k:=Gr.rk b ρ r.2) (by omega) (by omega) (by omega)
 have m1:=z08 (show x+31*r.1.parts<=x+31*m by omega)
 have m2:=z08 (show x+31*r.2.parts<=x+31*m by omega)
 have m3:=z0m (x+31*m)
 have m4:(2:Int) ^ (x+31*m+2)=2*2 ^ (x+31*m+1):=z0m (x+31*m+1)
 have m5:=z05 (x+31*m)
 exact ⟨by unfold clm; omega,ad,ko.mono (by omega),by omega,by omega,by omega,by omega⟩
/-- the ladders that own ranks are,of a book of few trees in a rule -/
theorem z9w {b:Bk} (ok:b.Ok) {m:Nat} (hm:∀ k ∈ b,∀ r ∈ k.rs,r.1.Ok (2 ^ 29)/\r.2.Ok (2 ^ 29)/\r.1.parts+r.2.parts<=m):∀ (c:Nat) (k:Kd),k ∈ b->EndK b k.n->cntR b k.n<=c->Bnd m c (z02 b k.n)
 | c,k,hk,he,hc=>by
  have hadj:=z0p ok hk
  have nm:∀ r ∈ k.rs,Gr.Named (adj b k.n) r.1/\Gr.Named (adj b k.n) r.2:=fun r hr=>⟨fun x hx=>by rw [hadj]; exact z0a hr (mal _ hx),fun x hx=>by rw [hadj]; exact z0a hr (mar _ hx)⟩
  have eq:=z2d ok hk he
  have ne:z02 b k.n ≠ .nil:=fun z=>by
   have:=Lad.maxL_ge (k.rs.map (clm b (z02 b))) Lad.uno Lad.uno (mcs ..)
   rw [<- eq,z] at this
   rw [Lad.lt_nil_cons] at this; cases this
  have p2:=zbi m c
  have x0:(2:Int)<=2 ^ (2+(31*m+2)*c):=by
   have:=z08 (show 1<=2+(31*m+2)*c by omega)
   exact this
  have ofClm:(∀ r ∈ k.rs,(clm b (z02 b) r).parts<=Pm m c/\(clm b (z02 b) r).deep<=2+m*c/\(clm b (z02 b) r).Ok (2 ^ (2+(31*m+2)*c)))->Bnd m c (z02 b k.n):=fun h=>by
   refine ⟨ne,?_,?_,?_⟩ <;> rw [eq] <;> rcases List.mem_cons.mp (Lad.maxL_mem (k.rs.map (clm b (z02 b))) Lad.uno) with e | e
   ·rw [e]; show 1<=_; omega
   ·obtain ⟨r,hr,e⟩:=List.mem_map.mp e
    rw [<- e]; exact (h r hr).1
   ·rw [e]; show 1<=_; omega
   ·obtain ⟨r,hr,e⟩:=List.mem_map.mp e
    rw [<- e]; exact (h r hr).2.1
   ·rw [e]; exact Lad.uno_ok.mono x0
   ·obtain ⟨r,hr,e⟩:=List.mem_map.mp e
    rw [<- e]; exact (h r hr).2.2
  cases c with
  | zero =>
   have h0:adj b k.n=[]:=by
    cases ha:adj b k.n with
    | nil=>rfl
    | cons y ys =>
     have:=z30 ok he (k:=y) (by rw [ha]; exact mcs ..)
     omega
   refine ofClm fun r hr=>?_
   obtain ⟨n1,n2⟩:=nm r hr
   rw [h0] at n1 n2
   have nil_of:∀ g:Gr,Gr.Named [] g->g=.nil:=fun g h=>by
    cases g with
    | nil=>rfl
    | cons k g m r=>exact absurd (h ((k,g),m) (mcs ..)) (by simp)
   have e:r=(.nil,.nil):=Prod.ext (nil_of _ n1) (nil_of _ n2)
   rw [e,z4p]
   exact ⟨by show 1<=2; decide,by show 1<=_; omega,Lad.uno_ok.mono x0⟩
  | succ c =>
   have hch:∀ n ∈ adj b k.n,Bnd m c (z02 b n):=fun n hn=>by
    have hlt:=z30 ok he hn
    obtain ⟨kd,eg⟩:=Bk.get_of (z0k ok hn)
    obtain ⟨hkd,rfl⟩:=Bk.get_some eg
    exact z9w ok hm c kd hkd (he.next hn) (by omega)
   refine ofClm fun r hr=>?_
   obtain ⟨n1,n2⟩:=nm r hr
   obtain ⟨o1,o2,hs⟩:=hm k hk r hr
   obtain ⟨c1,c2,c3,_⟩:=z78 (b:=b) (ρ:=z02 b) (P:=Pm m c) (D:=2+m*c) (x:=2+(31*m+2)*c) (fun n hn=>⟨(hch n hn).parts,(hch n hn).deep⟩) (fun n hn=>(hch n hn).ok) n1 n2 o1 o2 hs (by omega)
   refine ⟨c1,by rw [Nat.mul_succ]; omega,?_⟩
   have:2+(31*m+2)*(c+1)=2+(31*m+2)*c+31*m+2:=by rw [Nat.mul_succ]; omega
   rw [this]; exact c3
theorem z8f {b:Bk} (ok:b.Ok) {m:Nat} (hm:∀ k ∈ b,∀ r ∈ k.rs,r.1.Ok (2 ^ 29)/\r.2.Ok (2 ^ 29)/\r.1.parts+r.2.parts<=m) (hP:m*Pm m (b.length-1)<=390) (hD:2+m*(b.length-1)+m<=24) (hX:2+(31*m+2)*(b.length-1)+31*m<=2000):OwnR b (z02 b)/\∀ n ∈ b.names,EndK b n->Bnd m (b.length-1) (z02 b n):=by
 have hb:∀ n ∈ b.names,EndK b n->Bnd m (b.length-1) (z02 b n):=fun n hn he=>by
  obtain ⟨kd,eg⟩:=Bk.get_of hn
  obtain ⟨hkd,rfl⟩:=Bk.get_some eg
  have:=z6k he hn
  exact z9w ok hm _ kd hkd he (by omega)
 have hch:∀ k ∈ b,EndK b k.n->∀ n ∈ adj b k.n,Bnd m (b.length-1) (z02 b n):=fun k hk he n hn=>hb n (z0k ok hn) (he.next hn)
 have p2:=zbi m (b.length-1)
 refine ⟨⟨fun k hk he=>z2d ok hk he,fun k hk he ns hns r hr=>?_,fun k hk he r hr=>?_⟩,hb⟩
 ·have hadj:=z0p ok hk
  have n1:Gr.Named (adj b k.n) r.1:=fun x hx=>by rw [hadj]; exact z0a hr (mal _ hx)
  have n2:Gr.Named (adj b k.n) r.2:=fun x hx=>by rw [hadj]; exact z0a hr (mar _ hx)
  obtain ⟨o1,o2,hs⟩:=hm k hk r hr
  have hc:=hch k hk he
  obtain ⟨_,_,_,d1,d2,q1,q2⟩:=z78 (b:=b) (ρ:=z02 b) (P:=Pm m (b.length-1)) (D:=2+m*(b.length-1)) (x:=2+(31*m+2)*(b.length-1)) (fun n hn=>⟨(hc n hn).parts,(hc n hn).deep⟩) (fun n hn=>(hc n hn).ok) n1 n2 o1 o2 hs (by omega)
  have w1:=z07 r.1
  have w2:=z07 r.2
  have hP1:Pm m (b.length-1)*r.1.parts<=390:=Nat.le_trans (Nat.mul_le_mul_left _ (show r.1.parts<=m by omega)) (by rw [Nat.mul_comm]; exact hP)
  have hP2:Pm m (b.length-1)*r.2.parts<=390:=Nat.le_trans (Nat.mul_le_mul_left _ (show r.2.parts<=m by omega)) (by rw [Nat.mul_comm]; exact hP)
  have hk':∀ n ∈ adj b k.n,n ∈ b.names/\z02 b n ≠ .nil/\(z02 b n).parts<=Pm m (b.length-1)/\(z02 b n).deep<=2+m*(b.length-1)/\(z02 b n).Ok (2 ^ (2+(31*m+2)*(b.length-1))):=fun n hn=>⟨z0k ok hn,(hc n hn).ne,(hc n hn).parts,(hc n hn).deep,(hc n hn).ok⟩
  exact ⟨(Gr.rk_fit hk' (by omega) n1 o1 hP1 (by omega) (by omega)).mono hns,(Gr.rk_fit hk' (by omega) n2 o2 hP2 (by omega) (by omega)).mono hns,by omega,by omega,by omega,by omega⟩
 ·have hadj:=z0p ok hk
  have n1:Gr.Named (adj b k.n) r.1:=fun x hx=>by rw [hadj]; exact z0a hr (mal _ hx)
  have n2:Gr.Named (adj b k.n) r.2:=fun x hx=>by rw [hadj]; exact z0a hr (mar _ hx)
  obtain ⟨o1,o2,hs⟩:=hm k hk r hr
  have hc:=hch k hk he
  obtain ⟨_,d0,_⟩:=z78 (b:=b) (ρ:=z02 b) (P:=Pm m (b.length-1)) (D:=2+m*(b.length-1)) (x:=2+(31*m+2)*(b.length-1)) (fun n hn=>⟨(hc n hn).parts,(hc n hn).deep⟩) (fun n hn=>(hc n hn).ok) n1 n2 o1 o2 hs (by omega)
  omega
/-- the drawn books: each has its own ranks -/
theorem zav {b:Bk} (ok:b.Ok) {ks:List Str} {rounds:Bool} (h:z9o ks rounds b) (hl:ks.length<=6):OwnR b (z02 b)/\∀ n ∈ b.names,EndK b n->Bnd (if ks.length > 3 then 2 else 3) (b.length-1) (z02 b n):=by
 have bl:b.length=ks.length:=by have:=h.names.length_eq; rwa [List.length_map] at this
 have hm:∀ k ∈ b,∀ r ∈ k.rs,r.1.Ok (2 ^ 29)/\r.2.Ok (2 ^ 29)/\r.1.parts+r.2.parts<=if ks.length > 3 then 2 else 3:=fun k hk r hr=>⟨(h.nums k hk r hr).1.mono (by decide),(h.nums k hk r hr).2.mono (by decide),h.size k hk r hr⟩
 by_cases h3:ks.length > 3
 ·rw [if_pos h3] at hm ⊢
  have hb:b.length=4\/b.length=5\/b.length=6:=by omega
  refine z8f ok hm ?_ ?_ ?_ <;> rcases hb with e | e | e <;> rw [e] <;> decide
 ·rw [if_neg h3] at hm ⊢
  have hb:b.length=0\/b.length=1\/b.length=2\/b.length=3:=by omega
  refine z8f ok hm ?_ ?_ ?_ <;> rcases hb with e | e | e | e <;> rw [e] <;> decide
/-- all trees that stand in a grove,in their order -/
def Gr.ins:Gr->List Tr
 | .nil=>[]
 | .cons k g m r=>(k,g)::(g.ins++r.ins)
/-- a list of pairs,falling -/
structure FallL (B:Int) (ls:List (Lad × Int)):Prop where
 ok:∀ p ∈ ls,p.1.Ok B/\1<=p.2
 fall:ls.Pairwise fun p q=>q.1.lt p.1=true
theorem FallL.sum {B:Int} {ls:List (Lad × Int)} (h:FallL B ls):∀ p ∈ ls,Lad.sumAt ls p.1=p.2:=by
 have hf:=h.fall
 clear h
 induction ls with
 | nil=>intro p hp; cases hp
 | cons q r ih =>
  intro p hp
  obtain ⟨h1,h2⟩:=List.pairwise_cons.mp hf
  obtain ⟨e,m⟩:=q
  rw [Lad.sumAt_cons]
  rcases List.mem_cons.mp hp with rfl | hp
  ·rw [if_pos rfl,Lad.sumAt_zero fun q hq=>Lad.lt_ne (h1 q hq)]; omega
  ·rw [if_neg (fun z=>Lad.lt_ne (h1 p hp) z.symm),ih h2 p hp]; omega
/-- put in: where the exponent stands,or before the first that is less -/
theorem FallL.ins {B:Int} {ls:List (Lad × Int)} (h:FallL B ls) {e:Lad} {m:Int} (ho:e.Ok B) (hm:1<=m) {n:Nat} (hn:n<=ls.length) (h1:∀ p ∈ ls.take n,e.lt p.1=true) (h2:∀ p,ls[n]?=some p->p.1.lt e=true):FallL B (ls.take n++[(e,m)]++ls.drop n)/\∀ x,Lad.sumAt (ls.take n++[(e,m)]++ls.drop n) x=Lad.sumAt ls x+if e=x then m else 0:=by
 have hd:∀ p ∈ ls.drop n,p.1.lt e=true:=fun p hp=>by
  cases hdr:ls.drop n with
  | nil=>rw [hdr] at hp; cases hp
  | cons q r =>
   have hq:ls[n]?=some q:=by
    have:=congrArg (·[0]?) hdr
    rw [List.getElem?_drop] at this
    simpa using this
   have hpw:=h.fall.sublist (List.drop_sublist n ls)
   rw [hdr] at hp hpw
   rcases List.mem_cons.mp hp with rfl | hp
   ·exact h2 _ hq
   ·exact Lad.lt_trans _ _ _ ((List.pairwise_cons.mp hpw).1 p hp) (h2 q hq)
 have hsplit:=List.take_append_drop n ls
 refine ⟨⟨fun p hp=>?_,?_⟩,fun x=>?_⟩
 ·rcases List.mem_append.mp hp with hp | hp
  ·rcases List.mem_append.mp hp with hp | hp
   ·exact h.ok p (List.mem_of_mem_take hp)
   ·rw [List.mem_singleton.mp hp]; exact ⟨ho,hm⟩
  ·exact h.ok p (List.mem_of_mem_drop hp)
 ·have hf:=h.fall
  rw [<- hsplit] at hf
  obtain ⟨f1,f2,f3⟩:=List.pairwise_append.mp hf
  refine List.pairwise_append.mpr ⟨List.pairwise_append.mpr ⟨f1,List.pairwise_singleton _ _,fun p hp q hq=>by rw [List.mem_singleton.mp hq]; exact h1 p hp⟩,f2,fun p hp q hq=>?_⟩
  rcases List.mem_append.mp hp with hp | hp
  ·exact f3 p hp q hq
  ·rw [List.mem_singleton.mp hp]; exact hd q hq
 ·rw [Lad.sumAt_append,Lad.sumAt_append,Lad.sumAt_cons]
  have:Lad.sumAt ls x=Lad.sumAt (ls.take n) x+Lad.sumAt (ls.drop n) x:=by rw [<- Lad.sumAt_append,hsplit]
  rw [this]
  have z:Lad.sumAt [] x=0:=rfl
  rw [z]
  omega
theorem FallL.add {B:Int} {ls:List (Lad × Int)} (h:FallL B ls) {e:Lad} {m c:Int} (hm:1<=m) {n:Nat} (hp:ls[n]?=some (e,c)):FallL B (ls.set n (e,c+m))/\∀ x,Lad.sumAt (ls.set n (e,c+m)) x=Lad.sumAt ls x+if e=x then m else 0:=by
 obtain ⟨hn,hpe⟩:=List.getElem?_eq_some_iff.mp hp
 have e1:ls.set n (e,c+m)=ls.take n++(e,c+m)::ls.drop (n+1):=List.set_eq_take_append_cons_drop .. |>.trans (by rw [if_pos hn])
 have e2:ls=ls.take n++(e,c)::ls.drop (n+1):=by
  have:=List.take_append_drop n ls
  rw [List.drop_eq_getElem_cons hn,hpe] at this
  exact this.symm
 have hf:=h.fall
 have hok:=h.ok
 rw [e1]
 have hsum:∀ x,Lad.sumAt ls x=Lad.sumAt (ls.take n) x+((if e=x then c else 0)+Lad.sumAt (ls.drop (n+1)) x):=fun x=>by
  have this:Lad.sumAt ls x=Lad.sumAt (ls.take n++(e,c)::ls.drop (n+1)) x:=congrArg (fun l=>Lad.sumAt l x) e2
  rw [this,Lad.sumAt_append,Lad.sumAt_cons]
 have hm1:=hok _ (List.mem_of_getElem? hp)
 refine ⟨⟨fun p hp=>?_,?_⟩,fun x=>?_⟩
 ·rcases List.mem_append.mp hp with hp | hp
  ·exact hok p (List.mem_of_mem_take hp)
  ·rcases List.mem_cons.mp hp with rfl | hp
   ·exact ⟨hm1.1,by have:(1:Int)<=c:=hm1.2; show 1<=c+m; omega⟩
   ·exact hok p (List.mem_of_mem_drop hp)
 ·rw [e2] at hf
  obtain ⟨f1,f2,f3⟩:=List.pairwise_append.mp hf
  obtain ⟨g1,g2⟩:=List.pairwise_cons.mp f2
  refine List.pairwise_append.mpr ⟨f1,List.pairwise_cons.mpr ⟨g1,g2⟩,fun p hp q hq=>?_⟩
  rcases List.mem_cons.mp hq with rfl | hq
  ·exact f3 p hp (e,c) (mcs ..)
  ·exact f3 p hp q (mcm _ hq)
 ·rw [Lad.sumAt_append,Lad.sumAt_cons,hsum]
  split <;> omega
theorem Bears.cut {K:PySem.W.Frag} {H:Hp} {β:Type} {enc:β->PyData}:∀ (n:Nat) {us:List V} {bs:List β},Bears K H enc us bs->Bears K H enc (us.take n) (bs.take n)/\Bears K H enc (us.drop n) (bs.drop n)
 | 0,_,_,h=>⟨.nil,h⟩
 | n+1,_,_,.nil=>⟨.nil,.nil⟩
 | n+1,_,_,.cons a t=>⟨.cons a (Bears.cut n t).1,(Bears.cut n t).2⟩
/-- a dict from kinds to where their rules lead,in their order -/
inductive LedB (K:PySem.W.Frag) (H:Hp):List (Key × V)->Bk->Prop
 | nil:LedB K H [] []
 | cons {l:Addr} {k:Kd} {kvs:List (Key × V)} {b:Bk}:H l=some (.lst ((ledR k.rs).map V.str))->LedB K H kvs b->LedB K H ((Sum.inr k.n,.ref l)::kvs) (k::b)
section
variable {K:PySem.W.Frag} {H H':Hp}
theorem LedB.length:∀ {kvs:List (Key × V)} {b:Bk},LedB K H kvs b->kvs.length=b.length
 | _,_,.nil=>rfl
 | _,_,.cons _ t=>congrArg (·+1) t.length
theorem LedB.append:∀ {kvs kws:List (Key × V)} {b c:Bk},LedB K H kvs b->LedB K H kws c->LedB K H (kvs++kws) (b++c)
 | _,_,_,_,.nil,h=>h
 | _,_,_,_,.cons a t,h=>.cons a (t.append h)
theorem LedB.val {n:Str} {k:Kd}:∀ {kvs:List (Key × V)} {b:Bk},LedB K H kvs b->b.get n=some k->∃ l,valV kvs (Sum.inr n)=some (.ref l)/\H l=some (.lst ((ledR k.rs).map V.str))
 | _,_,.nil,e=>by simp [Bk.get] at e
 | _,_,.cons (l:=l) (k:=kk) (b:=bb) a t,e=>by
  by_cases h:kk.n=n
  ·have e':kk=k:=by
    have:Bk.get (kk::bb) n=some kk:=by simp [Bk.get,h]
    rw [this] at e; exact Option.some.inj e
   subst e'
   exact ⟨l,valV_pos (by rw [h]),a⟩
  ·have e':Bk.get bb n=some k:=by
    unfold Bk.get at e
    rw [List.find?_cons_of_neg (by simpa using h)] at e
    exact e
   obtain ⟨l',h1,h2⟩:=t.val e'
   exact ⟨l',by rw [valV_neg (fun z=>h (Sum.inr.inj z))]; exact h1,h2⟩
theorem LedB.sb {ps:List Addr} (e:SB ps H H'):∀ {kvs:List (Key × V)} {b:Bk},LedB K H kvs b->(∀ p ∈ kvs,∀ q ∈ ps,p.2 ≠ .ref q)->LedB K H' kvs b
 | _,_,.nil,_=>.nil
 | _,_,.cons a t,h=>.cons (e.keep _ _ a fun z=>h _ mcs _ z rfl) (LedB.sb e t fun p hp=>h p (mcm _ hp))
theorem LedB.ne {q:Addr} (hq:H q=none):∀ {kvs:List (Key × V)} {b:Bk},LedB K H kvs b->∀ p ∈ kvs,p.2 ≠ .ref q
 | _,_,.nil,p,hp=>nomatch hp
 | _,_,.cons a t,p,hp=>by
  rcases List.mem_cons.mp hp with e | e
  ·rw [e]
   intro z
   rw [V.ref.inj z] at a
   rw [a] at hq; cases hq
  ·exact LedB.ne hq t p e
theorem LedB.keys:∀ {kvs:List (Key × V)} {b:Bk},LedB K H kvs b->kvs.map (·.1)=b.names.map Sum.inr
 | _,_,.nil=>rfl
 | _,_,.cons a t=>by rw [List.map_cons,LedB.keys t]; rfl
end
structure Own40 (b:Bk) (ρ:Str->Lad) (P:Nat):Prop where
 own:OwnR b ρ
 bnd:∃ x D:Nat,D<=12/\x<=330/\∀ n ∈ b.names,EndK b n->ρ n ≠ .nil/\(ρ n).parts<=P/\(ρ n).deep<=D/\(ρ n).Ok (2 ^ x)
 ru:∀ k ∈ b,∀ r ∈ k.rs,r.1.Ok (2 ^ 29)/\r.2.Ok (2 ^ 29)
theorem Own40.of {b:Bk} (ok:b.Ok) {ks:List Str} {rounds:Bool} (h:z9o ks rounds b) (hl:ks.length<=6):Own40 b (z02 b) (if ks.length<=5 then 62 else 126):=by
 obtain ⟨o1,o2⟩:=zav ok h hl
 have bl:b.length=ks.length:=by have:=h.names.length_eq; rwa [List.length_map] at this
 have b1:=ok.pos
 have ru:∀ k ∈ b,∀ r ∈ k.rs,r.1.Ok (2 ^ 29)/\r.2.Ok (2 ^ 29):=fun k hk r hr=>⟨(h.nums k hk r hr).1.mono (by decide),(h.nums k hk r hr).2.mono (by decide)⟩
 by_cases h3:ks.length > 3
 ·rw [if_pos h3] at o2
  refine ⟨o1,⟨2+(31*2+2)*(b.length-1),2+2*(b.length-1),by omega,by omega,fun n hn he=>⟨(o2 n hn he).ne,Nat.le_trans (o2 n hn he).parts ?_,(o2 n hn he).deep,(o2 n hn he).ok⟩⟩,ru⟩
  have hb:b.length=4\/b.length=5\/b.length=6:=by omega
  rw [<- bl]
  rcases hb with e | e | e <;> rw [e] <;> decide
 ·rw [if_neg h3] at o2
  refine ⟨o1,⟨2+(31*3+2)*(b.length-1),2+3*(b.length-1),by omega,by omega,fun n hn he=>⟨(o2 n hn he).ne,Nat.le_trans (o2 n hn he).parts ?_,(o2 n hn he).deep,(o2 n hn he).ok⟩⟩,ru⟩
  have hb:b.length=1\/b.length=2\/b.length=3:=by omega
  rw [<- bl]
  rcases hb with e | e | e <;> rw [e] <;> decide
namespace Lad
variable {B C D:Int} {l k:Lad}
theorem tms_self (hl:l.Ok B):tms l 1=l:=ext (tms_ok hl (by decide)) hl fun x=>by rw [S_tms]; omega
theorem bths_nil:bths []=.nil:=by
 show ofPs (jn (dsc []))=.nil
 have:dsc []=[]:=List.Perm.eq_nil (dsc_perm [])
 rw [this]; rfl
theorem bths_one (hl:l.Ok B) (hB:0<=B):bths [l]=l:=by
 refine ext (B:=B+1) (C:=B) (bths_ok (B:=B) (fun k hk=>by rw [List.mem_singleton.mp hk]; exact hl) hB (by omega) fun x=>?_) hl fun x=>?_
 ·have:=ok_pos hl hB x
  simp only [List.map_cons,List.map_nil,List.sum_cons,List.sum_nil]
  omega
 ·rw [Gr.S_bths]; simp
theorem sum_take_le (f:Lad->Int):∀ (ls:List Lad) (i:Nat),(∀ l ∈ ls,0<=f l)->0<=((ls.take i).map f).sum/\((ls.take i).map f).sum<=(ls.map f).sum
 | [],i,_=>by simp
 | l::r,0,h=>by
  obtain ⟨h1,h2⟩:=sum_take_le f r 0 fun x hx=>h x (mcm _ hx)
  have h3:=h l (mcs ..)
  simp only [List.take_zero,List.map_nil,List.sum_nil,List.map_cons,List.sum_cons] at h1 h2 ⊢
  omega
 | l::r,i+1,h=>by
  obtain ⟨h1,h2⟩:=sum_take_le f r i fun x hx=>h x (mcm _ hx)
  have h3:=h l (mcs ..)
  simp only [List.take_succ_cons,List.map_cons,List.sum_cons]
  omega
end Lad
/-- all that a grove's ladders keep to -/
structure GL (b:Bk) (ρ:Str->Lad) (P:Nat) (g:Gr):Prop where
 fit:∀ ns,(∀ n ∈ b.names,EndK b n->n ∈ ns)->Gr.Fit b ρ ns g
 each:∀ l ∈ Gr.rkT b ρ g,l.Ok (2 ^ 1600)
 sum:∀ y,((Gr.rkT b ρ g).map fun l=>Lad.S l y).sum < 2 ^ 1600
 parts:((Gr.rkT b ρ g).map Lad.parts).sum<=P*g.parts
 deep:∀ l ∈ Gr.rkT b ρ g,l.deep<=12+g.deep
theorem GL.ok {b:Bk} {ρ:Str->Lad} {P:Nat} {g:Gr} (h:GL b ρ P g) (i:Nat):(Lad.bths ((Gr.rkT b ρ g).take i)).Ok (2 ^ 1600):=by
 have p0:=z05 1600
 refine Lad.bths_ok (fun l hl=>h.each l (List.mem_of_mem_take hl)) (by omega) (Int.le_refl _) fun x=>?_
 have h1:=(Lad.sum_take_le (fun l=>Lad.S l x) (Gr.rkT b ρ g) i fun l hl=>Lad.S_nonneg (h.each l hl) x).2
 have h2:=h.sum x
 omega
theorem GL.dp {b:Bk} {ρ:Str->Lad} {P:Nat} {g:Gr} (h:GL b ρ P g) (i:Nat):(Lad.bths ((Gr.rkT b ρ g).take i)).deep<=12+g.deep :=
 Lad.bths_deep fun l hl=>h.deep l (List.mem_of_mem_take hl)
def Ends (b:Bk) (g:Gr):Prop:=∀ x ∈ g.within,EndK b x.1.1
theorem Ends.at {b:Bk} {g:Gr} (h:Ends b g) {p:Tr × Int} (hp:p ∈ g.ps):EndK b p.1.1/\Ends b p.1.2:=by
 have hw:=Gr.within_ps g
 refine ⟨h p (by rw [hw]; exact List.mem_flatMap.mpr ⟨p,hp,mcs ..⟩),fun x hx=>h x (by rw [hw]; exact List.mem_flatMap.mpr ⟨p,hp,mcm _ hx⟩)⟩
theorem Named.at {ns:List Str} {g:Gr} (h:Gr.Named ns g) {p:Tr × Int} (hp:p ∈ g.ps):p.1.1 ∈ ns/\Gr.Named ns p.1.2:=by
 have hw:=Gr.within_ps g
 refine ⟨h p (by rw [hw]; exact List.mem_flatMap.mpr ⟨p,hp,mcs ..⟩),fun x hx=>h x (by rw [hw]; exact List.mem_flatMap.mpr ⟨p,hp,mcm _ hx⟩)⟩
theorem zbe {b:Bk} {ρ:Str->Lad} {g k:Gr} {B C D:Int} (hg:(Gr.rk b ρ g).Ok B) (hk:(Gr.rk b ρ k).Ok C) (hB:1<=B) (hC:1<=C) (hj:(Gr.rk b ρ (Gr.tidy (g.ps++k.ps))).Ok D):(Gr.rk b ρ (Gr.tidy (g.ps++k.ps)))=(Gr.rk b ρ g).bth (Gr.rk b ρ k):=by
 refine Lad.ext hj (Lad.bth_ok hg hk hB hC) fun x=>?_
 rw [Lad.S_bth,Gr.S_rk,Gr.S_rk,Gr.S_rk,<- z64]
 refine z6i _ _ _ _ (Nat.le_refl _) fun t=>?_
 unfold Gr.tidy
 rw [Gr.ps_ofPs,z7e]
def zk (ns:List Str) (us:List V):List (Key × V):=List.zipWith (fun (n:Str) (u:V)=>((Sum.inr n:Key),u)) ns us
/-- at d stands a dict of the ladders ρ of ns,at us -/
structure RkU (K:PySem.W.Frag) (H:Hp) (d:Addr) (ρ:Str->Lad) (ns:List Str) (us:List V):Prop where
 at_:H d=some (.dK (zk ns us))
 lad:Bears K H Lad.enc us (ns.map ρ)
theorem RkU.sb {K:PySem.W.Frag} {H H':Hp} {d:Addr} {ρ:Str->Lad} {ns:List Str} {us:List V} {ps:List Addr} (h:RkU K H d ρ ns us) (s:SB ps H H') (hd:d ∉ ps):RkU K H' d ρ ns us:=⟨s.keep _ _ h.at_ hd,h.lad.sb s Lad.noList_enc⟩
theorem RkU.sb0 {K:PySem.W.Frag} {H H':Hp} {d:Addr} {ρ:Str->Lad} {ns:List Str} {us:List V} (h:RkU K H d ρ ns us) (s:SB [] H H'):RkU K H' d ρ ns us:=h.sb s nmn
theorem z5m:∀ {ns:List Str} {us:List V},us.length=ns.length->(zk ns us).map (·.1)=ns.map Sum.inr
 | [],[],_=>rfl
 | [],_::_,h=>by simp at h
 | _::_,[],h=>by simp at h
 | n::r,u::us,h=>by
  have:=z5m (ns:=r) (us:=us) (by simpa using h)
  show Sum.inr n::(zk r us).map (·.1)=_
  rw [this]; rfl
theorem zb9 {ns:List Str} {us:List V} (h:us.length=ns.length):(zk ns us).length=ns.length:=by
 have:=congrArg List.length (z5m h)
 simpa using this
theorem Bears.ref {K:PySem.W.Frag} {H:Hp} {us:List V} {ls:List Lad} (h:Bears K H Lad.enc us ls):∀ u ∈ us,∃ a,u=.ref a:=fun u hu=>by
 obtain ⟨i,hi⟩:=List.getElem?_of_mem hu
 obtain ⟨l,_,hl⟩:=h.get hi
 obtain ⟨a,_,e,_⟩:=z0n hl
 exact ⟨a,e⟩
/-- ρ but l at n -/
def setL (ρ:Str->Lad) (n:Str) (l:Lad):Str->Lad:=fun m=>if m=n then l else ρ m
theorem z9t (x:V):∀ {ns:List Str} {us:List V} {i:Nat} {n:Str},us.length=ns.length->ns.Nodup->ns[i]?=some n->putK (zk ns us) (Sum.inr n) x=zk ns (us.set i x)
 | [],_,_,_,_,_,e=>by simp at e
 | m::r,[],_,_,h,_,_=>by simp at h
 | m::r,u::us,0,n,h,nd,e=>by
  obtain rfl:=Option.some.inj (show some m=some n from e)
  obtain ⟨h1,h2⟩:=List.nodup_cons.mp nd
  show putK ((Sum.inr m,u)::zk r us) (Sum.inr m) x=(Sum.inr m,x)::zk r us
  have hm:List.map (fun kv:Key × V=>if kv.1=Sum.inr m then (kv.1,x) else kv) (zk r us)=zk r us:=by
   refine (List.map_congr_left fun p hp=>?_).trans (List.map_id _)
   rw [if_neg fun z=>?_]; rfl
   have:p.1 ∈ (zk r us).map (·.1):=List.mem_map.mpr ⟨p,hp,rfl⟩
   rw [z5m (by simpa using h),z] at this
   obtain ⟨y,hy,e⟩:=List.mem_map.mp this
   exact h1 (by rw [<- Sum.inr.inj e]; exact hy)
  unfold putK
  simp [hm]
 | m::r,u::us,i+1,n,h,nd,e=>by
  obtain ⟨h1,h2⟩:=List.nodup_cons.mp nd
  have e':r[i]?=some n:=e
  have hne:m ≠ n:=fun z=>h1 (by rw [z]; exact List.mem_of_getElem? e')
  have ih:=z9t x (ns:=r) (us:=us) (i:=i) (n:=n) (by simpa using h) h2 e'
  show putK ((Sum.inr m,u)::zk r us) (Sum.inr n) x=(Sum.inr m,u)::zk r (us.set i x)
  rw [<- ih]
  unfold putK
  have hs:¬ ((Sum.inr m:Key)=Sum.inr n):=fun z=>hne (Sum.inr.inj z)
  have hd:decide ((Sum.inr m:Key)=Sum.inr n)=false:=decide_eq_false hs
  simp only [List.any_cons,hd,Bool.false_or,List.map_cons,if_neg hs]
  split <;> rfl
/-- worths[n]=x,n among the names -/
theorem RkU.set {K:PySem.W.Frag} {H:Hp} {d:Addr} {ρ:Str->Lad} {ns:List Str} {us:List V} {n:Str} {x:V} {l:Lad} (h:RkU K H d ρ ns us) (nd:ns.Nodup) (hl:ns.length<=1000) {i:Nat} (hn:ns[i]?=some n) (hx:LA K H x l):∃ H',DPut H d (.str n) x H'/\SB [d] H H'/\RkU K H' d (setL ρ n l) ns (us.set i x):=by
 have szl:=sizeLine_eq
 have ul:us.length=ns.length:=by rw [h.lad.length,List.length_map]
 have zl:=zb9 ul
 have t:=SB.setD (ps:=[d]) h.at_ (by simp) (.dK (putK (zk ns us) (Sum.inr n) x))
 have e:=z9t x ul nd hn
 refine ⟨_,DPut.k (k:=Sum.inr n) h.at_ (by rw [zl]; omega),t,⟨by rw [upd_same,e],?_⟩⟩
 have hb:=(h.lad.sb t Lad.noList_enc).set (i:=i) (LA.sb hx t)
 have:ns.map (setL ρ n l)=(ns.map ρ).set i l:=by
  clear hb e t zl h ul
  induction ns generalizing i with
  | nil=>simp at hn
  | cons m r ih =>
   obtain ⟨h1,h2⟩:=List.nodup_cons.mp nd
   cases i with
   | zero =>
    obtain rfl:=Option.some.inj (show some m=some n from hn)
    simp only [List.map_cons,List.set_cons_zero]
    refine List.cons_eq_cons.mpr ⟨by simp [setL],List.map_congr_left fun y hy=>?_⟩
    unfold setL
    rw [if_neg fun z=>h1 (by rw [<- z]; exact hy)]
   | succ i =>
    have e':r[i]?=some n:=hn
    have hne:m ≠ n:=fun z=>h1 (by rw [z]; exact List.mem_of_getElem? e')
    simp only [List.map_cons,List.set_cons_succ]
    refine List.cons_eq_cons.mpr ⟨by simp [setL,hne],ih h2 (by simp at hl; omega) e'⟩
 rw [this]; exact hb
theorem RkU.put {K:PySem.W.Frag} {H:Hp} {d:Addr} {ρ:Str->Lad} {ns:List Str} {us:List V} {n:Str} {x:V} {l:Lad} (h:RkU K H d ρ ns us) (hn:n ∉ ns) (hl:ns.length<=1000) (hx:LA K H x l):∃ H',DPut H d (.str n) x H'/\SB [d] H H'/\RkU K H' d (setL ρ n l) (ns++[n]) (us++[x]):=by
 have szl:=sizeLine_eq
 have ul:us.length=ns.length:=by rw [h.lad.length,List.length_map]
 have zl:=zb9 ul
 have t:=SB.setD (ps:=[d]) h.at_ (by simp) (.dK (putK (zk ns us) (Sum.inr n) x))
 have e:putK (zk ns us) (Sum.inr n) x=zk (ns++[n]) (us++[x]):=by
  rw [z1i fun p hp z=>?_]
  ·unfold zk
   rw [List.zipWith_append (by omega)]; rfl
  ·have:p.1 ∈ (zk ns us).map (·.1):=List.mem_map.mpr ⟨p,hp,rfl⟩
   rw [z5m ul,z] at this
   obtain ⟨m,hm,e⟩:=List.mem_map.mp this
   exact hn (by rw [<- Sum.inr.inj e]; exact hm)
 refine ⟨_,DPut.k (k:=Sum.inr n) h.at_ (by rw [zl]; omega),t,⟨by rw [upd_same,e],?_⟩⟩
 rw [List.map_append,show ns.map (setL ρ n l)=ns.map ρ from List.map_congr_left fun y hy=>by unfold setL; rw [if_neg fun z=>hn (by rw [<- z]; exact hy)]]
 exact (h.lad.sb t Lad.noList_enc).append (.cons (by show LA K _ x (setL ρ n l n); unfold setL; rw [if_pos rfl]; exact LA.sb hx t) .nil)
structure Wor (b:Bk) (ρ:Str->Lad) (P:Nat):Prop where
 each:∀ n ∈ b.names,ρ n ≠ .nil/\(ρ n).parts<=P/\(ρ n).deep<=12/\(ρ n).Ok (2 ^ 340)
/-- what fault tells -/
def FV (K:PySem.W.Frag) (H:Hp) (x:V):Option (Str × Nat)->Prop
 | none=>x=.non
 | some (n,i)=>∃ t,x=.ref t/\SqT K H t [.str n,.int (i:Int)]
theorem FV.sb {K:PySem.W.Frag} {H H':Hp} {x:V} {o:Option (Str × Nat)} {ps:List Addr} (h:FV K H x o) (s:SB ps H H'):FV K H' x o:=by
 cases o with
 | none=>exact h
 | some p =>
  obtain ⟨n,i⟩:=p
  obtain ⟨t,e,ht⟩:=h
  exact ⟨t,e,s.sqT ht⟩
/-- what a worth may be,ahead of being raised -/
structure Wp (l:Lad):Prop where
 ne:l ≠ .nil
 parts:l.parts<=126
 deep:l.deep<=12
 ok:l.Ok (2 ^ 330)
theorem Wor.set {b:Bk} {ρ:Str->Lad} (h:Wor b ρ 126) {n:Str} {l:Lad} (h1:l ≠ .nil) (h2:l.parts<=126) (h3:l.deep<=12) (h4:l.Ok (2 ^ 340)):Wor b (setL ρ n l) 126:=⟨fun m hm=>by
 unfold setL
 by_cases e:m=n
 ·rw [if_pos e]; exact ⟨h1,h2,h3,h4⟩
 ·rw [if_neg e]; exact h.each m hm⟩
theorem Wp.set {ns:List Str} {ρ:Str->Lad} (h:∀ m ∈ ns,Wp (ρ m)) {n:Str} {l:Lad} (hl:Wp l):∀ m ∈ ns++[n],Wp (setL ρ n l m):=fun m hm=>by
 unfold setL
 by_cases e:m=n
 ·rw [if_pos e]; exact hl
 ·rw [if_neg e]
  rcases List.mem_append.mp hm with hm | hm
  ·exact h m hm
  ·exact absurd (List.mem_singleton.mp hm) e
namespace Lad
/-- a right ladder,of any numbers -/
def R (l:Lad):Prop:=∃ B:Int,1<=B/\l.Ok B
variable {a b c d l k o:Lad} {m n:Int} {w:Bool}
theorem R.nil:R .nil:=⟨1,by decide,trivial⟩
theorem R.bth (h:R l) (g:R k):R (l.bth k):=by
 obtain ⟨B,hB,h⟩:=h
 obtain ⟨C,hC,g⟩:=g
 exact ⟨B+C,by omega,bth_ok h g hB hC⟩
theorem R.bhd (h:R l) (g:R k):R (l.bhd k):=by
 obtain ⟨B,hB,h⟩:=h
 obtain ⟨C,hC,g⟩:=g
 exact ⟨B+C,by omega,bhd_ok h g hB hC⟩
theorem R.tms (h:R l) (hm:0<=m):R (l.tms m):=by
 obtain ⟨B,hB,h⟩:=h
 have:=Int.mul_nonneg (show 0<=B by omega) hm
 exact ⟨B*m+B,by omega,tms_ok h hm⟩
theorem R.abv (h:R l) (g:R k):R (l.abv k):=by
 obtain ⟨B,hB,h⟩:=h
 obtain ⟨C,hC,g⟩:=g
 exact ⟨B+(C+2),by omega,abv_ok h g hB hC⟩
theorem R.lad (h:R o) (g:R l):R (lad w o l):=by
 obtain ⟨B,hB,h⟩:=h
 obtain ⟨C,hC,g⟩:=g
 exact ⟨B+C,by omega,lad_ok h g hB hC⟩
theorem R.uno:R uno:=⟨2,by decide,uno_ok⟩
theorem R.ext (h:R l) (g:R k) (e:∀ x,S l x=S k x):l=k:=by
 obtain ⟨B,hB,h⟩:=h
 obtain ⟨C,hC,g⟩:=g
 exact Lad.ext h g e
theorem R.lt_iff (h:R l) (g:R k):l.lt k=true ↔ LT' l k:=by
 obtain ⟨B,hB,h⟩:=h
 obtain ⟨C,hC,g⟩:=g
 exact Lad.lt_iff h g
theorem R.common:∀ {ls:List Lad},(∀ l ∈ ls,R l)->∃ B:Int,1<=B/\∀ l ∈ ls,l.Ok B
 | [],_=>⟨1,by decide,fun l h=>nomatch h⟩
 | x::r,h=>by
  obtain ⟨B,hB,hx⟩:=h x (mcs ..)
  obtain ⟨C,hC,hr⟩:=R.common (ls:=r) fun l hl=>h l (mcm _ hl)
  refine ⟨B+C,by omega,fun l hl=>?_⟩
  rcases List.mem_cons.mp hl with e | e
  ·rw [e]; exact hx.mono (by omega)
  ·exact (hr l e).mono (by omega)
theorem sum_len_le {B:Int} (hB:0<=B) (x:Lad):∀ {ls:List Lad},(∀ l ∈ ls,l.Ok B)->(ls.map fun l=>S l x).sum<=ls.length*B
 | [],_=>by simp
 | y::r,h=>by
  have h1:=ok_pos (h y (mcs ..)) hB x
  have h2:=sum_len_le hB x (ls:=r) fun l hl=>h l (mcm _ hl)
  rw [List.map_cons,List.sum_cons,List.length_cons]
  have:((r.length+1:Nat):Int)*B=r.length*B+B:=by rw [Int.natCast_add,Int.add_mul]; simp
  omega
theorem R.bths {ls:List Lad} (h:∀ l ∈ ls,R l):R (bths ls):=by
 obtain ⟨B,hB,hb⟩:=R.common h
 have hl:(0:Int)<=ls.length*B:=Int.mul_nonneg (Int.natCast_nonneg _) (by omega)
 exact ⟨ls.length*B+B+1,by omega,bths_ok hb (by omega) (by omega) fun x=>by have:=sum_len_le (by omega) x hb; omega⟩
theorem bths_cons {ls:List Lad} (hl:R l) (h:∀ k ∈ ls,R k):Lad.bths (l::ls)=l.bth (Lad.bths ls):=by
 refine R.ext (R.bths fun k hk=>?_) (hl.bth (R.bths h)) fun x=>?_
 ·rcases List.mem_cons.mp hk with e | e
  ·rw [e]; exact hl
  ·exact h k e
 ·rw [Gr.S_bths,S_bth,Gr.S_bths,List.map_cons,List.sum_cons]
/-- no greater -/
def Le (a b:Lad):Prop:=b.lt a=false
theorem Le.refl:Le a a:=lt_irrefl a
theorem Le.trans (h:Le a b) (g:Le b c):Le a c:=le_trans h g
theorem Le.of_lt (h:a.lt b=true):Le a b:=le_of_lt h
theorem Le.nil:Le .nil a:=lt_nil_r a
theorem Le.cases (h:Le a b):a=b\/a.lt b=true:=by
 by_cases e:a=b
 ·exact .inl e
 ·exact .inr (lt_tri b a (fun z=>e z.symm) h)
theorem Le.lt (h:Le a b) (g:b.lt c=true):a.lt c=true:=by
 rcases h.cases with e | e
 ·rw [e]; exact g
 ·exact lt_trans _ _ _ e g
theorem lt_le (g:a.lt b=true) (h:Le b c):a.lt c=true:=by
 rcases h.cases with e | e
 ·rw [<- e]; exact g
 ·exact lt_trans _ _ _ g e
theorem bth_lt (ra:R a) (rb:R b) (rc:R c) (h:b.lt c=true):(a.bth b).lt (a.bth c)=true:=by
 obtain ⟨A,hA,ra⟩:=ra
 obtain ⟨B,hB,rb⟩:=rb
 obtain ⟨C,hC,rc⟩:=rc
 exact bth_mono ra rb rc hA hB hC h
theorem Le.bth (ra:R a) (rb:R b) (rc:R c) (rd:R d) (h:Le a b) (g:Le c d):Le (a.bth c) (b.bth d):=by
 refine Le.trans (b:=a.bth d) ?_ ?_
 ·rcases g.cases with e | e
  ·rw [e]; exact Le.refl
  ·exact Le.of_lt (bth_lt ra rc rd e)
 ·rw [bth_comm a d,bth_comm b d]
  rcases h.cases with e | e
  ·rw [e]; exact Le.refl
  ·exact Le.of_lt (bth_lt rd ra rb e)
theorem tms_lt (ra:R a) (rb:R b) (hm:1<=m) (h:a.lt b=true):(a.tms m).lt (b.tms m)=true:=by
 obtain ⟨x,h1,h2⟩:=(ra.lt_iff rb).mp h
 refine ((ra.tms (by omega)).lt_iff (rb.tms (by omega))).mpr ⟨x,?_,fun y hy=>?_⟩
 ·rw [S_tms,S_tms]; exact Int.mul_lt_mul_of_pos_right h1 (by omega)
 ·rw [S_tms,S_tms,h2 y hy]
theorem tms_zero:tms l 0=.nil:=by simp [tms]
theorem Le.tms (ra:R a) (rb:R b) (hm:0<=m) (h:Le a b):Le (a.tms m) (b.tms m):=by
 by_cases m0:m=0
 ·rw [m0,tms_zero]; exact Le.nil
 rcases h.cases with e | e
 ·rw [e]; exact Le.refl
 ·exact Le.of_lt (tms_lt ra rb (by omega) e)
theorem le_bth (ra:R a) (rb:R b):Le a (a.bth b):=by
 obtain ⟨A,hA,ra⟩:=ra
 obtain ⟨B,hB,rb⟩:=rb
 exact Le.trans (bhd_ge ra rb hA hB) (bth_ge_bhd ra rb hA hB)
theorem tms_le (r:R l) (h0:0<=m) (h:m<=n):Le (l.tms m) (l.tms n):=by
 have e:l.tms n=(l.tms m).bth (l.tms (n-m)):=by
  refine R.ext (r.tms (by omega)) ((r.tms h0).bth (r.tms (by omega))) fun x=>?_
  rw [S_bth,S_tms,S_tms,S_tms,Int.mul_sub]; omega
 rw [e]
 exact le_bth (r.tms h0) (r.tms (by omega))
theorem le_tms (r:R l) (h:1<=m):Le l (l.tms m):=by
 have h1:=tms_le r (show (0:Int)<=1 by decide) h
 obtain ⟨B,_,r⟩:=r
 rwa [tms_self r] at h1
/-- an exponent is less than its ladder -/
theorem exp_lt:∀ {e:Lad} {m:Int} {r:Lad},e.lt (.cons e m r)=true
 | .nil,m,r=>lt_nil_cons _ _ _
 | .cons e2 m2 r2,m,r=>by
  have h:=exp_lt (e:=e2) (m:=m2) (r:=r2)
  rw [lt_cons,if_neg (lt_ne h)]
  exact h
theorem bhd_lt (ra:R a) (rb:R b) (rc:R c) (h:b.lt c=true):(a.bhd b).lt (a.bhd c)=true:=by
 obtain ⟨A,hA,ra⟩:=ra
 obtain ⟨B,hB,rb⟩:=rb
 obtain ⟨C,hC,rc⟩:=rc
 exact bhd_mono ra rb rc hA hB hC h
theorem Le.bhd1 (ra:R a) (rb:R b) (rc:R c) (h:Le b c):Le (b.bhd a) (c.bhd a):=by
 rcases h.cases with e | e
 ·rw [e]; exact Le.refl
 obtain ⟨A,hA,ra⟩:=ra
 obtain ⟨B,hB,rb⟩:=rb
 obtain ⟨C,hC,rc⟩:=rc
 exact bhd_first ra rb rc hA hB hC e
theorem le_bhd2 (ra:R a) (rb:R b):Le b (a.bhd b):=by
 have h:=Le.bhd1 rb R.nil ra Le.nil
 rwa [nil_bhd] at h
theorem le_bhd1 (ra:R a) (rb:R b):Le a (a.bhd b):=by
 obtain ⟨A,hA,ra⟩:=ra
 obtain ⟨B,hB,rb⟩:=rb
 exact bhd_ge ra rb hA hB
theorem R.exp {e:Lad} {m:Int} {r:Lad} (h:R (.cons e m r)):R e:=by
 obtain ⟨B,hB,h⟩:=h
 exact ⟨B,hB,h.1⟩
theorem exp_grows (re:R a) (rl:R l) (h:l ≠ .nil):a.lt (a.bhd l)=true:=by
 have h1:=bhd_lt re R.nil rl (nil_le l h)
 rwa [bhd_nil] at h1
theorem top_lt {e e2:Lad} {m m2:Int} {r r2:Lad} (h:e.lt e2=true):Lad.lt (.cons e m r) (.cons e2 m2 r2)=true:=by
 rw [lt_cons,if_neg (lt_ne h)]; exact h
theorem spd_cons {e:Lad} {m:Int} {r:Lad} (h:l ≠ .nil):spd (.cons e m r) l=.cons (e.bhd l) 1 .nil:=by
 cases l with
 | nil=>exact absurd rfl h
 | cons _ _ _=>rfl
theorem lad_lt (ro:R o) (rl:R l) (rk:R k) (ho:o ≠ .nil) (h:l.lt k=true):(lad w o l).lt (lad w o k)=true:=by
 cases w with
 | false=>exact bhd_lt ro rl rk h
 | true =>
  show (spd o l).lt (spd o k)=true
  have hk:k ≠ .nil:=fun z=>by rw [z,lt_nil_r] at h; cases h
  cases o with
  | nil=>exact absurd rfl ho
  | cons e m r =>
   rw [spd_cons hk]
   by_cases hl:l=.nil
   ·rw [hl]
    show Lad.lt (.cons e m r) _=true
    exact top_lt (exp_grows ro.exp rk hk)
   ·rw [spd_cons hl]
    exact top_lt (bhd_lt ro.exp rl rk h)
theorem le_lad1 (ro:R o) (rl:R l) (ho:o ≠ .nil):Le o (lad w o l):=by
 cases w with
 | false=>exact le_bhd1 ro rl
 | true =>
  show Le o (spd o l)
  cases o with
  | nil=>exact absurd rfl ho
  | cons e m r =>
   by_cases hl:l=.nil
   ·rw [hl]; exact Le.refl
   ·rw [spd_cons hl]; exact Le.of_lt (top_lt (exp_grows ro.exp rl hl))
theorem le_lad2 (ro:R o) (rl:R l) (ho:o ≠ .nil):Le l (lad w o l):=by
 cases w with
 | false=>exact le_bhd2 ro rl
 | true =>
  show Le l (spd o l)
  cases o with
  | nil=>exact absurd rfl ho
  | cons e m r =>
   cases l with
   | nil=>exact Le.nil
   | cons e1 m1 r1 =>
    rw [spd_cons (by simp)]
    exact Le.of_lt (top_lt (lt_le exp_lt (le_bhd2 ro.exp rl)))
theorem Le.lad (ro:R o) (ra:R a) (rl:R l) (rk:R k) (ho:o ≠ .nil) (ha:a ≠ .nil) (h:Le o a) (g:Le l k):Le (lad w o l) (lad w a k):=by
 refine Le.trans (b:=FT.lad w o k) ?_ ?_
 ·rcases g.cases with e | e
  ·rw [e]; exact Le.refl
  ·exact Le.of_lt (lad_lt ro rl rk ho e)
 ·cases w with
  | false=>exact Le.bhd1 rk ro ra h
  | true =>
   show Le (spd o k) (spd a k)
   cases o with
   | nil=>exact absurd rfl ho
   | cons e m r =>
    cases a with
    | nil=>exact absurd rfl ha
    | cons e2 m2 r2 =>
     by_cases hk:k=.nil
     ·rw [hk]; exact h
     ·rw [spd_cons hk,spd_cons hk]
      have he:Le e e2:=by
       unfold Le at h ⊢
       rw [lt_cons] at h
       split at h
       ·rename_i e0; rw [e0]; exact lt_irrefl _
       ·exact h
      rcases (Le.bhd1 rk ro.exp ra.exp he).cases with e0 | e0
      ·rw [e0]; exact Le.refl
      ·exact Le.of_lt (top_lt e0)
theorem above_gt (rl:R l) (rk:R k) (hn:0<=n):(l.bth (k.tms n)).lt (l.abv k)=true:=by
 obtain ⟨B,hB,rl⟩:=rl
 obtain ⟨C,hC,rk⟩:=rk
 exact abv_gt rl rk hB hC hn
theorem above_least (rl:R l) (rk:R k) (ra:R a) (h:a.lt (l.abv k)=true) (hn:eno k a<=n):Le a (l.bth (k.tms n)):=by
 obtain ⟨A,hA,ra'⟩:=ra
 have e0:=eno_nonneg (k:=k) ra'
 have rl':=rl
 have rk':=rk
 obtain ⟨B,hB,rl⟩:=rl
 obtain ⟨C,hC,rk⟩:=rk
 have h1:Le a (l.bth (k.tms (eno k a))):=abv_least rl rk ra' hB hC h
 exact h1.trans (Le.bth rl' rl' (rk'.tms e0) (rk'.tms (by omega)) Le.refl (tms_le rk' e0 hn))
theorem Le.abv (rl:R l) (ra:R a) (rk:R k) (rb:R b) (h:Le l a) (g:Le k b):Le (l.abv k) (a.abv b):=by
 cases e:(a.abv b).lt (l.abv k) with
 | false=>exact e
 | true =>
  exfalso
  have e0:0<=eno k (a.abv b):=by
   obtain ⟨A,hA,x⟩:=ra.abv rb
   exact eno_nonneg x
  have h1:=above_least rl rk (ra.abv rb) e (Int.le_refl _)
  have h2:=Le.bth rl ra (rk.tms e0) (rb.tms e0) h (Le.tms rk rb e0 g)
  have h3:=(h1.trans h2).lt (above_gt ra rb e0)
  rw [lt_irrefl] at h3; cases h3
theorem abv_left (rl:R l) (rk:R k):l.lt (l.abv k)=true:=by
 have h:=above_gt rl rk (show (0:Int)<=0 by decide)
 obtain ⟨B,hB,rl⟩:=rl
 rwa [tms_zero,bth_nil rl] at h
theorem abv_right (rl:R l) (rk:R k):k.lt (l.abv k)=true:=by
 have h:=above_gt rl rk (show (0:Int)<=1 by decide)
 have h1:=le_bth rk rl
 obtain ⟨C,hC,rk⟩:=rk
 rw [tms_self rk] at h
 rw [bth_comm] at h1
 exact h1.lt h
theorem uno_le (rl:R l) (h:l ≠ .nil):Le uno l:=by
 cases l with
 | nil=>exact absurd rfl h
 | cons e m r =>
  show Lad.lt (.cons e m r) (.cons .nil 1 .nil)=false
  obtain ⟨B,hB,h1,h2,_⟩:=rl
  rw [lt_cons]
  split
  ·split
   ·exact lt_nil_r _
   ·exact decide_eq_false (by omega)
  ·exact lt_nil_r _
end Lad
namespace Gr
variable {b:Bk} {ρ σ:Str->Lad} {C:Int}
/-- the ladders of the kinds of a grove are right ones -/
def RN (ρ:Str->Lad) (g:Gr):Prop:=∀ x ∈ g.within,Lad.R (ρ x.1.1)/\ρ x.1.1 ≠ .nil
theorem RN.cons {k:Str} {g r:Gr} {m:Int} (h:RN ρ (.cons k g m r)):(Lad.R (ρ k)/\ρ k ≠ .nil)/\RN ρ g/\RN ρ r :=
 ⟨h ((k,g),m) (mcs ..),fun x hx=>h x (mcm _ (mal _ hx)),fun x hx=>h x (mcm _ (mar _ hx))⟩
theorem rkT_R:∀ {g:Gr},g.Ok C->RN ρ g->∀ l ∈ rkT b ρ g,Lad.R l
 | .nil,_,_,l,hl=>nomatch hl
 | .cons k g m r,ho,h,l,hl=>by
  obtain ⟨h1,h2,h3⟩:=h.cons
  obtain ⟨o1,o2,o3,o4,o5,_⟩:=ho
  rcases List.mem_cons.mp hl with e | e
  ·rw [e]; exact (h1.1.lad (Lad.R.bths (rkT_R o2 h2))).tms (by omega)
  ·exact rkT_R o5 h3 l e
theorem rk_R {g:Gr} (ho:g.Ok C) (h:RN ρ g):Lad.R (rk b ρ g):=Lad.R.bths (rkT_R ho h)
theorem rk_cons {k:Str} {g r:Gr} {m:Int} (ho:(Gr.cons k g m r).Ok C) (h:RN ρ (.cons k g m r)):rk b ρ (.cons k g m r)=(Lad.tms (rkt b ρ (k,g)) m).bth (rk b ρ r):=by
 obtain ⟨h1,h2,h3⟩:=h.cons
 obtain ⟨o1,o2,o3,o4,o5,_⟩:=ho
 exact Lad.bths_cons ((h1.1.lad (rk_R o2 h2)).tms (by omega)) (rkT_R o5 h3)
theorem rk_ge:∀ {g:Gr},g.Ok C->RN ρ g->∀ x ∈ g.within,Lad.Le (ρ x.1.1) (rk b ρ g)
 | .nil,_,_,x,hx=>nomatch hx
 | .cons k g m r,ho,h,x,hx=>by
  rw [rk_cons ho h]
  obtain ⟨h1,h2,h3⟩:=h.cons
  obtain ⟨o1,o2,o3,o4,o5,_⟩:=ho
  have rg:=rk_R (b:=b) o2 h2
  have rr:=rk_R (b:=b) o5 h3
  have q1:=h1.1.lad (w:=b.wide k) rg
  have t1:=q1.tms (m:=m) (by omega)
  have low:Lad.Le (rkt b ρ (k,g)) ((Lad.tms (rkt b ρ (k,g)) m).bth (rk b ρ r)):=(Lad.le_tms q1 o3).trans (Lad.le_bth t1 rr)
  rcases List.mem_cons.mp hx with e | e
  ·rw [e]; exact (Lad.le_lad1 h1.1 rg h1.2).trans low
  ·rcases List.mem_append.mp e with e | e
   ·exact ((rk_ge o2 h2 x e).trans (Lad.le_lad2 h1.1 rg h1.2)).trans low
   ·refine (rk_ge o5 h3 x e).trans ?_
    rw [Lad.bth_comm]
    exact Lad.le_bth rr t1
theorem rk_tmsG {g:Gr} {m:Int} (hm:0<=m) (hg:Lad.R (rk b ρ g)) (hk:Lad.R (rk b ρ (tmsG g m))):rk b ρ (tmsG g m)=Lad.tms (rk b ρ g) m:=by
 refine Lad.R.ext hk (hg.tms hm) fun x=>?_
 rw [S_rk,Lad.S_tms,S_rk]
 by_cases h0:m=0
 ·subst h0; simp [tmsG,Gr.ps,wsum]
 ·rw [tmsG,if_neg h0,ps_ofPs,wsum_tms]
theorem rk_tgtG {g k:Gr} (hg:Lad.R (rk b ρ g)) (hk:Lad.R (rk b ρ k)) (hj:Lad.R (rk b ρ (tgt g k))):rk b ρ (tgt g k)=(rk b ρ g).bth (rk b ρ k):=by
 obtain ⟨B,hB,hg⟩:=hg
 obtain ⟨C,hC,hk⟩:=hk
 obtain ⟨D,hD,hj⟩:=hj
 exact zbe hg hk hB hC hj
theorem RN.named {ns:List Str} {g:Gr} (h:∀ n ∈ ns,Lad.R (ρ n)/\ρ n ≠ .nil) (hn:Named ns g):RN ρ g:=fun x hx=>h _ (hn x hx)
/-- a rule's groves,grown: their ladder -/
theorem rk_grw {r:Ru} {n:Int} {ns:List Str} (rok:RuOk r) (hn:0<=n) (h:∀ n ∈ ns,Lad.R (ρ n)/\ρ n ≠ .nil) (h1:Named ns r.1) (h2:Named ns r.2):rk b ρ (grw r n)=(rk b ρ r.1).bth (Lad.tms (rk b ρ r.2) n):=by
 obtain ⟨o1,o2,_⟩:=rok
 have r1:=rk_R (b:=b) o1 (RN.named h h1)
 have r2:=rk_R (b:=b) o2 (RN.named h h2)
 have ot:=tms_ok o2 (by decide) hn
 have nt:=named_tms h2 n
 have rt:=rk_R (b:=b) ot (RN.named h nt)
 have z:=Int.mul_nonneg (show (0:Int)<=1000000001 by decide) hn
 have rj:=rk_R (b:=b) (tgt_ok2 o1 ot (by decide) (by omega)) (RN.named h (named_tgt h1 nt))
 unfold grw
 rw [rk_tgtG r1 rt rj,rk_tmsG hn r2 rt]
end Gr
/-- a kind that stands in a rule has a lesser ladder than the rule -/
theorem zhg {b:Bk} {ρ:Str->Lad} {ns:List Str} {r:Ru} (rok:RuOk r) (h:∀ n ∈ ns,Lad.R (ρ n)/\ρ n ≠ .nil) (h1:Gr.Named ns r.1) (h2:Gr.Named ns r.2) {x:Tr × Int} (hx:x ∈ Ru.within r):(ρ x.1.1).lt (clm b ρ r)=true:=by
 have r1:=Gr.rk_R (b:=b) rok.1 (Gr.RN.named h h1)
 have r2:=Gr.rk_R (b:=b) rok.2.1 (Gr.RN.named h h2)
 rcases List.mem_append.mp hx with e | e
 ·exact (Gr.rk_ge rok.1 (Gr.RN.named h h1) x e).lt (Lad.abv_left r1 r2)
 ·exact (Gr.rk_ge rok.2.1 (Gr.RN.named h h2) x e).lt (Lad.abv_right r1 r2)
/-- no rule asks for more than its kind has -/
def NoF (b:Bk) (ρ:Str->Lad):Prop:=∀ k ∈ b,∀ r ∈ k.rs,(ρ k.n).lt (clm b ρ r)=false
def RB (b:Bk) (ρ:Str->Lad):Prop:=∀ n ∈ b.names,Lad.R (ρ n)/\ρ n ≠ .nil
theorem Bk.Ok.named {b:Bk} (ok:b.Ok) {k:Kd} (hk:k ∈ b) {r:Ru} (hr:r ∈ k.rs):RuOk r/\Gr.Named b.names r.1/\Gr.Named b.names r.2:=by
 obtain ⟨h1,h2⟩:=(ok.kd k hk).2.2 r hr
 exact ⟨h1,fun x hx=>h2 x (mal _ hx),fun x hx=>h2 x (mar _ hx)⟩
theorem NoF.down {b:Bk} {ρ:Str->Lad} (h:NoF b ρ) (ok:b.Ok) (hR:RB b ρ) {n m:Str} (hm:m ∈ adj b n):(ρ m).lt (ρ n)=true:=by
 unfold FT.adj at hm
 cases eg:b.get n with
 | none=>rw [eg] at hm; cases hm
 | some k =>
  rw [eg] at hm
  obtain ⟨hk,rfl⟩:=Bk.get_some eg
  obtain ⟨r,hr,hm⟩:=List.mem_flatMap.mp hm
  obtain ⟨x,hx,rfl⟩:=List.mem_map.mp hm
  obtain ⟨rok,n1,n2⟩:=ok.named hk hr
  exact Lad.lt_le (zhg rok hR n1 n2 hx) (h k hk r hr)
theorem NoF.rch {b:Bk} {ρ:Str->Lad} (h:NoF b ρ) (ok:b.Ok) (hR:RB b ρ) {n m:Str} (hm:Rch b n m):(ρ m).lt (ρ n)=true:=by
 induction hm with
 | one e=>exact h.down ok hR e
 | step _ e ih=>exact Lad.lt_trans _ _ _ (h.down ok hR e) ih
theorem NoF.own {b:Bk} {ρ:Str->Lad} (ok:b.Ok) (h:∀ n ∈ b.names,EndK b n/\ρ n=z02 b n):NoF b ρ:=fun k hk r hr=>by
 have hn:k.n ∈ b.names:=List.mem_map.mpr ⟨k,hk,rfl⟩
 obtain ⟨_,n1,n2⟩:=ok.named hk hr
 rw [(h _ hn).2,z2d ok hk (h _ hn).1]
 refine Lad.maxL_ge _ _ _ (mcm _ (List.mem_map.mpr ⟨r,hr,?_⟩))
 refine z7o fun x hx=>?_
 rcases List.mem_append.mp hx with e | e
 ·exact (h _ (n1 x e)).2.symm
 ·exact (h _ (n2 x e)).2.symm
namespace Gr
variable {b:Bk} {ρ σ:Str->Lad} {C:Int} {ns:List Str}
theorem rk_numsX {x:Nat} (hk:∀ n ∈ ns,(ρ n).Ok (2 ^ x)):∀ {g:Gr},Named ns g->g.Ok (2 ^ 119)->(∀ l ∈ rkT b ρ g,l.Ok (2 ^ (x+121*g.parts)))/\∀ y,((rkT b ρ g).map fun l=>Lad.S l y).sum < 2 ^ (x+121*g.parts)
 | .nil,_,_=>And.intro (fun l hl=>nomatch hl) (fun y=>by
  show (0:Int) < _
  have:=z05 (x+121*Gr.nil.parts); omega)
 | .cons k g m r,h,ho=>by
  obtain ⟨_,hg,hm1,hm2,hr,_⟩:=ho
  have hkn:k ∈ ns:=h ((k,g),m) (mcs ..)
  obtain ⟨g1,g2⟩:=rk_numsX hk (g:=g) (fun x hx=>h x (mcm _ (mal _ hx))) hg
  obtain ⟨r1,r2⟩:=rk_numsX hk (g:=r) (fun x hx=>h x (mcm _ (mar _ hx))) hr
  have e1:(Gr.cons k g m r).parts=1+g.parts+r.parts:=rfl
  have p0:=z05 (x+121*g.parts)
  have px:=z05 x
  have io:(Lad.bths (rkT b ρ g)).Ok (2 ^ (x+121*g.parts)):=Lad.bths_ok g1 (by omega) (Int.le_refl _) g2
  have lo:=Lad.lad_ok (w:=b.wide k) (hk k hkn) io px p0
  have m1:=z08 (show x<=x+121*g.parts by omega)
  have lo2:(lad (b.wide k) (ρ k) (Lad.bths (rkT b ρ g))).Ok (2 ^ (x+121*g.parts+1)):=lo.mono (by rw [z0m]; omega)
  have to:=Lad.tms_ok lo2 (show 0<=m by omega)
  have q0:=z05 (x+121*g.parts+1)
  have hb:2 ^ (x+121*g.parts+1)*m+2 ^ (x+121*g.parts+1)<=2 ^ (x+121*g.parts+120):=by
   have:(2:Int) ^ (x+121*g.parts+120)=2 ^ (x+121*g.parts+1)*2 ^ 119:=by rw [<- Int.pow_add]
   rw [this]
   have h2:(2:Int) ^ (x+121*g.parts+1)*(m+1)<=2 ^ (x+121*g.parts+1)*2 ^ 119:=Int.mul_le_mul_of_nonneg_left (by omega) (by omega)
   rw [Int.mul_add,Int.mul_one] at h2
   exact h2
  have to2:=to.mono hb
  have w1:=z08 (show x+121*g.parts+120<=x+121*(1+g.parts+r.parts)-1 by omega)
  have w2:=z08 (show x+121*r.parts<=x+121*(1+g.parts+r.parts)-1 by omega)
  have w3:=z0m (x+121*(1+g.parts+r.parts)-1)
  rw [show x+121*(1+g.parts+r.parts)-1+1=x+121*(1+g.parts+r.parts) by omega] at w3
  have w0:=z05 (x+121*(1+g.parts+r.parts)-1)
  rw [e1]
  refine ⟨fun l hl=>?_,fun y=>?_⟩
  ·rcases List.mem_cons.mp hl with rfl | hl
   ·exact to2.mono (by omega)
   ·exact (r1 l hl).mono (by omega)
  ·show Lad.S (Lad.tms (lad (b.wide k) (ρ k) (Lad.bths (rkT b ρ g))) m) y+((rkT b ρ r).map fun l=>Lad.S l y).sum < _
   have s2:=r2 y
   have s3:Lad.S (Lad.tms (lad (b.wide k) (ρ k) (Lad.bths (rkT b ρ g))) m) y < 2 ^ (x+121*g.parts+120)\/Lad.S (Lad.tms (lad (b.wide k) (ρ k) (Lad.bths (rkT b ρ g))) m) y<=0:=by
    rcases Lad.S_cases to2 y with ⟨h1,_⟩ | ⟨mm,_,h2,_,h4⟩
    ·right; omega
    ·left; omega
   have w4:=z05 (x+121*g.parts+120)
   rcases s3 with s3 | s3 <;> omega
theorem rk_fitX {P D x:Nat} (hk:∀ n ∈ ns,n ∈ b.names/\ρ n ≠ .nil/\(ρ n).parts<=P/\(ρ n).deep<=D/\(ρ n).Ok (2 ^ x)) (hP:1<=P):∀ {g:Gr},Named ns g->g.Ok (2 ^ 119)->P*g.parts<=890->D+g.deep<=24->x+121*g.parts<=2000->Fit b ρ ns g
 | .nil,_,_,_,_,_=>trivial
 | .cons k g m r,h,ho,hp,hd,hx=>by
  have hP':∀ n ∈ ns,(ρ n).parts<=P/\(ρ n).deep<=D:=fun n hn=>⟨(hk n hn).2.2.1,(hk n hn).2.2.2.1⟩
  have hX':∀ n ∈ ns,(ρ n).Ok (2 ^ x):=fun n hn=>(hk n hn).2.2.2.2
  have nm:2 ^ 119<=(2:Int) ^ 2000:=z08 (by decide)
  obtain ⟨hkn,hnn⟩:k ∈ ns/\(Named ns g/\Named ns r):=⟨h ((k,g),m) (mcs ..),fun x hx=>h x (mcm _ (mal _ hx)),fun x hx=>h x (mcm _ (mar _ hx))⟩
  obtain ⟨ok0,hg,hm1,hm2,hr,hrise⟩:=ho
  have ho:(Gr.cons k g m r).Ok (2 ^ 119):=⟨ok0,hg,hm1,hm2,hr,hrise⟩
  have e1:(Gr.cons k g m r).parts=1+g.parts+r.parts:=rfl
  have e2:(Gr.cons k g m r).deep=max (1+g.deep) r.deep:=rfl
  rw [e1,Nat.mul_add,Nat.mul_add,Nat.mul_one] at hp
  rw [e1] at hx
  obtain ⟨s1,s2⟩:=rk_size hP' h
  obtain ⟨g1,g2⟩:=rk_size hP' hnn.1
  obtain ⟨n1,n2⟩:=rk_numsX hX' hnn.1 hg
  have p0:=z05 (x+121*g.parts)
  have px:=z05 x
  have io:(Lad.bths (rkT b ρ g)).Ok (2 ^ (x+121*g.parts)):=Lad.bths_ok n1 (by omega) (Int.le_refl _) n2
  have lo:=(Lad.lad_ok (w:=b.wide k) (hX' k hkn) io px p0)
  have m1:=z08 (show x<=x+121*g.parts by omega)
  have m2:=z08 (show x+121*g.parts+1<=2000 by omega)
  have m3:=z0m (x+121*g.parts)
  obtain ⟨kb,kne,kp,kd,kx⟩:=hk k hkn
  have num:∀ {l:Lad},l.Ok (2 ^ 2000)->∀ p ∈ l.ps,0<=p.2/\p.2 < 2 ^ 2000:=fun hl p hp=>by
   have:=(Lad.ok_iff.mp hl).1 p hp
   exact ⟨by omega,this.2.2⟩
  have ip:(Lad.bths (rkT b ρ g)).parts<=P*g.parts:=Nat.le_trans (Lad.bths_parts _) g1
  have idp:(Lad.bths (rkT b ρ g)).deep<=D+g.deep:=Lad.bths_deep g2
  have lp:=Lad.lad_parts (b.wide k) (ρ k) (Lad.bths (rkT b ρ g))
  have ld:=Lad.lad_deep (w:=b.wide k) (o:=ρ k) (l:=Lad.bths (rkT b ρ g)) (n:=D+g.deep) (by omega) idp
  refine ⟨⟨hkn,kb,kne,⟨by omega,by omega,num (kx.mono (by omega))⟩,⟨by show (Lad.bths (rkT b ρ g)).deep<=25; omega,by show (Lad.bths (rkT b ρ g)).parts<=900; omega,num (io.mono (by omega))⟩,⟨by show (lad (b.wide k) (ρ k) (Lad.bths (rkT b ρ g))).deep<=25; omega,by show (lad (b.wide k) (ρ k) (Lad.bths (rkT b ρ g))).parts<=900; omega,num (lo.mono (by omega))⟩,by omega,by omega,?_⟩,rk_fitX hk hP hnn.1 hg (by omega) (by omega) (by omega),rk_fitX hk hP hnn.2 hr (by omega) (by omega) (by omega)⟩
  have key:∀ ls:List Lad,(ls.flatMap Lad.ps).length<=(ls.map Lad.parts).sum:=by
   intro ls
   induction ls with
   | nil=>exact Nat.le_refl _
   | cons l r ih =>
    rw [List.flatMap_cons,List.length_append,List.map_cons,List.sum_cons,Lad.ps_length]
    have:=l.len_parts
    omega
  have:=key (rkT b ρ (.cons k g m r))
  rw [e1,Nat.mul_add,Nat.mul_add,Nat.mul_one] at s1
  exact Nat.le_trans (Nat.le_trans this s1) (by omega)
end Gr
theorem Gr.named_bare {k:Str} {ns:List Str} {m:Int} (h:k ∈ ns):Gr.Named ns (.cons k .nil m .nil):=fun x hx=>by
 have e:x=((k,.nil),m):=by simpa [Gr.within] using hx
 rw [e]; exact h
theorem zfw {w:Bool} {o:Lad} (ho:o ≠ .nil):lad w o .nil=o:=by
 cases w with
 | false=>exact Lad.bhd_nil o
 | true =>
  cases o with
  | nil=>exact absurd rfl ho
  | cons e m r=>rfl
theorem Gr.rk_bare {b:Bk} {ρ:Str->Lad} {n:Str} {m:Int} (h:Lad.R (ρ n)) (ho:ρ n ≠ .nil) (hm:0<=m):Gr.rk b ρ (.cons n .nil m .nil)=Lad.tms (ρ n) m:=by
 have e:Gr.rk b ρ (.cons n .nil m .nil)=Lad.bths [Lad.tms (lad (b.wide n) (ρ n) (Lad.bths [])) m]:=rfl
 rw [e,Lad.bths_nil,zfw ho]
 obtain ⟨B,hB,hr⟩:=h.tms hm
 exact Lad.bths_one hr (by omega)
/-- drawn worths -/
structure W49 (b:Bk) (ρ:Str->Lad):Prop where
 each:∀ n ∈ b.names,ρ n ≠ .nil/\(ρ n).Ok (2 ^ 80)/\(ρ n).parts<=12/\(ρ n).deep<=3
theorem W49.fit {b:Bk} {ρ:Str->Lad} (h:W49 b ρ) {ns:List Str} (pm:ns.Perm b.names) {g:Gr} (hn:Gr.Named b.names g) (ho:g.Ok (2 ^ 119)) (hp:g.parts<=4) (hd:g.deep<=4):Gr.Fit b ρ ns g :=
 (Gr.rk_fitX (P:=12) (D:=3) (x:=80) (fun n hn=>by
  obtain ⟨h1,h2,h3,h4⟩:=h.each n hn
  exact ⟨hn,h1,h3,h4,h2⟩) (by decide) hn ho (by omega) (by omega) (by omega)).mono fun n hn=>pm.mem_iff.mpr hn
theorem zb7 {kd:Kd} {i:Nat} {r:Ru} (h:(noR::kd.rs)[i]?=some r):r=noR\/r ∈ kd.rs:=by
 rcases List.mem_cons.mp (List.mem_of_getElem? h) with e | e
 ·exact .inl e
 ·exact .inr e
theorem RuOk.no:RuOk noR:=⟨trivial,trivial,by decide⟩
theorem zby {b:Bk} (ok:b.Ok) {kd:Kd} (hk:kd ∈ b) {i:Nat} {r:Ru} (h:(noR::kd.rs)[i]?=some r):RuOk r/\Gr.Named b.names r.1/\Gr.Named b.names r.2:=by
 rcases zb7 h with e | e
 ·rw [e]; exact ⟨RuOk.no,(fun x hx=>nomatch (show x ∈ ([]:List (Tr × Int)) from hx)),(fun x hx=>nomatch (show x ∈ ([]:List (Tr × Int)) from hx))⟩
 ·exact ok.named hk e
/-- where no rule is at fault,a fall leaves less -/
theorem NoF.fall {b:Bk} {ρ:Str->Lad} (h:NoF b ρ) (ok:b.Ok) (hR:RB b ρ) {kd:Kd} (hk:kd ∈ b) {i:Nat} {r:Ru} (hr:(noR::kd.rs)[i]?=some r) {n:Int} (hn:0<=n):(Gr.rk b ρ (Gr.grw r n)).lt (ρ kd.n)=true:=by
 have hm:kd.n ∈ b.names:=List.mem_map.mpr ⟨kd,hk,rfl⟩
 obtain ⟨rok,n1,n2⟩:=zby ok hk hr
 rcases zb7 hr with e | e
 ·rw [e,show Gr.grw noR n=.nil from Gr.grw_nil hn,Gr.rk_nil]
  exact Lad.nil_le _ (hR _ hm).2
 ·rw [Gr.rk_grw rok hn hR n1 n2]
  exact Lad.lt_le (Lad.above_gt (Gr.rk_R rok.1 (Gr.RN.named hR n1)) (Gr.rk_R rok.2.1 (Gr.RN.named hR n2)) hn) (h kd hk r e)
structure D49 (l:Lad):Prop where
 ne:l ≠ .nil
 ok:l.Ok (2 ^ 80)
 parts:l.parts<=12
 deep:l.deep<=3
theorem D49.set {ns:List Str} {ρ:Str->Lad} (h:∀ m ∈ ns,D49 (ρ m)) {n:Str} {l:Lad} (hl:D49 l):∀ m ∈ ns++[n],D49 (setL ρ n l m):=fun m hm=>by
 unfold setL
 split
 ·exact hl
 ·rename_i hne
  rcases List.mem_append.mp hm with e | e
  ·exact h m e
  ·exact absurd (List.mem_singleton.mp e) hne
section
variable {K:PySem.W.Frag} {H:Hp} {bad:List Addr} {v:V} {k:Kd}
theorem KdAll.set (hv:KdA K H bad v k):∀ {vs:List V} {b:Bk} (i:Nat),KdAll K H bad vs b->KdAll K H bad (vs.set i v) (b.set i k)
 | _,_,_,.nil=>.nil
 | _,_,0,.cons _ t=>.cons hv t
 | _,_,i+1,.cons h t=>.cons h (KdAll.set hv i t)
end
theorem z7z:∀ {b:Bk} {i:Nat} {k k':Kd},b[i]?=some k->k'.n=k.n->Bk.names (b.set i k')=b.names
 | [],_,_,_,h,_=>by simp at h
 | x::r,0,k,k',h,e=>by
  have:x=k:=by simpa using h
  simp [Bk.names,e,this]
 | x::r,i+1,k,k',h,e=>by
  have h2:r[i]?=some k:=by simpa using h
  have:=z7z (b:=r) h2 e
  simpa [Bk.names] using this
/-- so many leaves -/
def lf (x:Str) (m:Int):Gr:=if m=0 then .nil else .cons x .nil m .nil
theorem zan {x:Str} {m C:Int} (hx:z01 x) (h0:0<=m) (hC:m < C):(lf x m).Ok C:=by
 unfold lf
 split
 ·trivial
 ·exact zhh hx (by omega) hC
theorem z2f (x:Str) (m:Int):(lf x m).parts<=1:=by
 unfold lf
 split
 ·exact Nat.zero_le _
 ·exact Nat.le_refl _
theorem z24 {x:Str} {ns:List Str} (m:Int) (h:x ∈ ns):Gr.Named ns (lf x m):=by
 unfold lf
 split
 ·intro x hx; exact nomatch (show x ∈ ([]:List (Tr × Int)) from hx)
 ·exact Gr.named_bare h
def du39 (once each:Int):Lad:=if 0 < each then .cons Lad.uno 1 .nil else .cons .nil (1+once) .nil
/-- the second kind's rules,and what its own rank is due to be -/
def Two39 (x:Str) (once each:Int) (rs:List Ru) (due:Lad):Prop:=(rs=[]/\due=Lad.uno)\/(rs=[(lf x once,lf x each)]/\due=du39 once each)
theorem Two39.ladder {x:Str} {once each:Int} {rs:List Ru} {due:Lad} (h:Two39 x once each rs due) (h0:0<=once) (h1:once<=10 ^ 9):∃ e c,due=.cons e c .nil/\1<=c/\c<=10 ^ 9+1/\(e=.nil\/(e=Lad.uno/\c=1/\0 < each)):=by
 rcases h with ⟨_,rfl⟩ | ⟨_,rfl⟩
 ·exact ⟨_,_,rfl,by decide,by decide,.inl rfl⟩
 ·unfold du39
  split
  ·exact ⟨_,_,rfl,by decide,by decide,.inr ⟨rfl,rfl,by assumption⟩⟩
  ·exact ⟨_,_,rfl,by omega,by omega,.inl rfl⟩
def z0h (x:Str) (due:Lad):Str->Lad:=fun n=>if n=x then Lad.uno else due
/-- a book of the two kinds -/
structure B39 (b:Bk) (x y:Str) (due:Lad):Prop where
 ok:b.Ok
 own:OwnR b (z0h x due)
 mx:x ∈ b.names
 my:y ∈ b.names
 ex:EndK b x
 ey:EndK b y
 each:∀ n ∈ b.names,z0h x due n ≠ .nil/\(z0h x due n).parts<=2/\(z0h x due n).deep<=2/\(z0h x due n).Ok (2 ^ 31)
theorem zas {e:Lad} {c:Int} (hc:1<=c) (h2:c<=10 ^ 9+1) (he:e=.nil\/e=Lad.uno):(Lad.cons e c .nil).Ok (2 ^ 31)/\(Lad.cons e c .nil).parts<=2/\(Lad.cons e c .nil).deep<=2:=by
 have p31:(10:Int) ^ 9+1 < 2 ^ 31:=by decide
 rcases he with rfl | rfl
 ·exact ⟨⟨trivial,hc,by omega,trivial,fun p hp=>nomatch hp⟩,by show 1<=2; decide,by show 1<=2; decide⟩
 ·exact ⟨⟨Lad.uno_ok.mono (by decide),hc,by omega,trivial,fun p hp=>nomatch hp⟩,by show 2<=2; decide,by show 2<=2; decide⟩
theorem B39.of {b:Bk} {x y:Str} {w0 w1:Bool} {rs0 rs1:List Ru} {once each:Int} {due:Lad} (hx:z01 x) (hy:z01 y) (hne:y ≠ x) (h0:rs0=[]\/rs0=[noR]) (h1:Two39 x once each rs1 due) (o0:0<=once) (o1:once<=10 ^ 9) (e0:0<=each) (e1:each<=10 ^ 9)
  (hb:b=[⟨x,w0,rs0⟩,⟨y,w1,rs1⟩]\/b=[⟨y,w1,rs1⟩,⟨x,w0,rs0⟩]):B39 b x y due:=by
 have mem:∀ k,k ∈ b ↔ k=⟨x,w0,rs0⟩\/k=⟨y,w1,rs1⟩:=fun k=>by
  rcases hb with e | e <;> rw [e] <;> simp [or_comm]
 have nms:∀ n,n ∈ b.names ↔ n=x\/n=y:=fun n=>by
  rcases hb with e | e <;> rw [e] <;> simp [Bk.names,or_comm]
 have mx:=(nms x).mpr (.inl rfl)
 have my:=(nms y).mpr (.inr rfl)
 have r0:∀ r ∈ rs0,r=noR:=fun r hr=>by
  rcases h0 with e | e <;> rw [e] at hr
  ·cases hr
  ·exact List.mem_singleton.mp hr
 have r1:∀ r ∈ rs1,r=(lf x once,lf x each):=fun r hr=>by
  rcases h1 with ⟨e,_⟩ | ⟨e,_⟩ <;> rw [e] at hr
  ·cases hr
  ·exact List.mem_singleton.mp hr
 have rok:RuOk (lf x once,lf x each):=⟨zan hx o0 (by omega),zan hx e0 (by omega),by have a:=z2f x once; have c:=z2f x each; show (lf x once).parts+(lf x each).parts<=4; omega⟩
 have ok:b.Ok:=by
  refine ⟨by rcases hb with e | e <;> rw [e] <;> simp,by rcases hb with e | e <;> rw [e] <;> simp,by rcases hb with e | e <;> rw [e] <;> simp [Bk.names,hne,show ¬ x=y from fun z=>hne z.symm],fun k hk=>?_⟩
  rcases (mem k).mp hk with e | e
  ·rw [e]
   exact ⟨hx,by rcases h0 with e | e <;> rw [e] <;> simp,fun r hr=>by rw [r0 r hr]; exact ⟨RuOk.no,fun p hp=>nomatch (show p ∈ ([]:List (Tr × Int)) from hp)⟩⟩
  ·rw [e]
   refine ⟨hy,by rcases h1 with ⟨e,_⟩ | ⟨e,_⟩ <;> rw [e] <;> simp,fun r hr=>?_⟩
   rw [r1 r hr]
   refine ⟨rok,fun p hp=>?_⟩
   rcases List.mem_append.mp hp with z | z
   ·exact z24 once mx p z
   ·exact z24 each mx p z
 have kx:(⟨x,w0,rs0⟩:Kd) ∈ b:=(mem _).mpr (.inl rfl)
 have ky:(⟨y,w1,rs1⟩:Kd) ∈ b:=(mem _).mpr (.inr rfl)
 have ex:EndK b x:=.mk fun k hk=>by
  have:=z0p ok kx
  have hk:k ∈ adj b (⟨x,w0,rs0⟩:Kd).n:=hk
  rw [this] at hk
  rcases h0 with e | e <;> rw [e] at hk <;> exact nomatch (show k ∈ ([]:List Str) from hk)
 have ady:∀ k ∈ adj b y,k=x:=fun k hk=>by
  have:=z0p ok ky
  have hk:k ∈ adj b (⟨y,w1,rs1⟩:Kd).n:=hk
  rw [this] at hk
  obtain ⟨r,hr,hk⟩:=List.mem_flatMap.mp hk
  rw [r1 r hr] at hk
  obtain ⟨p,hp,rfl⟩:=List.mem_map.mp hk
  have h:p.1.1 ∈ [x]:=by
   rcases List.mem_append.mp hp with z | z
   ·exact z24 once (List.mem_singleton.mpr rfl) p z
   ·exact z24 each (List.mem_singleton.mpr rfl) p z
  exact List.mem_singleton.mp h
 have ey:EndK b y:=.mk fun k hk=>by rw [ady k hk]; exact ex
 obtain ⟨e,c,hd,c1,c2,he⟩:=h1.ladder o0 o1
 have he':e=.nil\/e=Lad.uno:=by
  rcases he with h | h
  ·exact .inl h
  ·exact .inr h.1
 obtain ⟨g1,g2,g3⟩:=zas c1 c2 he'
 have hρx:z0h x due x=Lad.uno:=by unfold z0h; rw [if_pos rfl]
 have hρy:z0h x due y=due:=by unfold z0h; rw [if_neg hne]
 have each':∀ n ∈ b.names,z0h x due n ≠ .nil/\(z0h x due n).parts<=2/\(z0h x due n).deep<=2/\(z0h x due n).Ok (2 ^ 31):=fun n hn=>by
  rcases (nms n).mp hn with e | e
  ·rw [e,hρx]; exact ⟨by simp [Lad.uno],by show 1<=2; decide,by show 1<=2; decide,Lad.uno_ok.mono (by decide)⟩
  ·rw [e,hρy,hd]; exact ⟨by simp,g2,g3,g1⟩
 have hR:∀ n ∈ [x],Lad.R (z0h x due n)/\z0h x due n ≠ .nil:=fun n hn=>by rw [List.mem_singleton.mp hn,hρx]; exact ⟨Lad.R.uno,by simp [Lad.uno]⟩
 have lfrk:∀ m:Int,0<=m->Gr.rk b (z0h x due) (lf x m)=Lad.num m:=fun m hm=>by
  unfold lf Lad.num
  by_cases m0:m=0
  ·rw [if_pos m0,if_pos m0]; exact Gr.rk_nil
  ·rw [if_neg m0,if_neg m0,Gr.rk_bare (by rw [hρx]; exact Lad.R.uno) (by rw [hρx]; simp [Lad.uno]) hm,hρx]
   unfold Lad.tms
   rw [if_neg m0]
   show Lad.cons .nil (1*m) .nil=_
   rw [Int.one_mul]
 have clm1:clm b (z0h x due) (lf x once,lf x each)=du39 once each:=by
  show Lad.abv (Gr.rk b _ (lf x once)) (Gr.rk b _ (lf x each))=_
  rw [lfrk once o0,lfrk each e0]
  unfold du39
  by_cases hz:0 < each
  ·rw [if_pos hz]
   have:Lad.num each=.cons .nil each .nil:=by unfold Lad.num; rw [if_neg (by omega)]
   rw [this]
   refine Lad.R.ext (Lad.R.abv ?_ ⟨each+1,by omega,trivial,by omega,by omega,trivial,fun p hp=>nomatch hp⟩) ⟨2 ^ 31,by decide,(zas (by decide) (by decide) (.inr rfl)).1⟩ fun z=>?_
   ·unfold Lad.num
    split
    ·exact Lad.R.nil
    ·exact ⟨once+1,by omega,trivial,by omega,by omega,trivial,fun p hp=>nomatch hp⟩
   ·rw [Lad.S_abv,Lad.S_uno,Lad.nil_bhd]
    have:(if Lad.lt .nil z=true then Lad.S (Lad.num once) z else 0)=0:=by
     split
     ·rename_i hlt
      unfold Lad.num
      split
      ·rfl
      ·show Lad.sumAt [(.nil,once)] z=0
       rw [Lad.sumAt_cons,if_neg (Lad.lt_ne hlt),Lad.sumAt_nil]; rfl
     ·rfl
    rw [this,Int.zero_add]
  ·rw [if_neg hz]
   have:each=0:=by omega
   rw [this]
   show Lad.bth (Lad.num once) Lad.uno=_
   refine Lad.R.ext (Lad.R.bth ?_ Lad.R.uno) ⟨2 ^ 31,by decide,(zas (by omega) (by omega) (.inl rfl)).1⟩ fun z=>?_
   ·unfold Lad.num
    split
    ·exact Lad.R.nil
    ·exact ⟨once+1,by omega,trivial,by omega,by omega,trivial,fun p hp=>nomatch hp⟩
   ·rw [Lad.S_bth,Lad.S_uno]
    show _=Lad.sumAt [(.nil,1+once)] z
    rw [Lad.sumAt_cons,Lad.sumAt_nil]
    unfold Lad.num
    split
    ·rename_i h0'
     subst h0'
     show Lad.sumAt [] z+_=_
     rw [Lad.sumAt_nil]; split <;> omega
    ·show Lad.sumAt [(.nil,once)] z+_=_
     rw [Lad.sumAt_cons,Lad.sumAt_nil]; split <;> omega
 have max1:∀ l:Lad,Lad.R l->l ≠ .nil->Lad.maxL Lad.uno [l]=l:=fun l hl hn=>by
  show (if Lad.uno.lt l=true then l else Lad.uno)=l
  rcases (Lad.uno_le hl hn).cases with e | e
  ·rw [<- e]; split <;> rfl
  ·rw [if_pos e]
 have lfit:∀ (ns:List Str) (m:Int),(x ∈ ns\/lf x m=.nil)->0<=m->m<=10 ^ 9->Gr.Fit b (z0h x due) ns (lf x m):=fun ns m hns hm hm2=>by
  by_cases m0:m=0
  ·have:lf x m=.nil:=by unfold lf; rw [if_pos m0]
   rw [this]; trivial
  ·have hns:x ∈ ns:=by
    rcases hns with h | h
    ·exact h
    ·unfold lf at h; rw [if_neg m0] at h; cases h
   refine (Gr.rk_fitX (P:=2) (D:=2) (x:=31) (ns:=[x]) (fun n hn=>?_) (by decide) (z24 m (List.mem_singleton.mpr rfl)) (zan hx hm ?_) ?_ ?_ ?_).mono fun n hn=>by rw [List.mem_singleton.mp hn]; exact hns
   ·rw [List.mem_singleton.mp hn]; exact ⟨mx,each' x mx⟩
   ·have:(10:Int) ^ 9 < 2 ^ 119:=by decide
    omega
   ·have:=z2f x m; omega
   ·have h1:=z2f x m; have h2:=(lf x m).deep_parts; omega
   ·have:=z2f x m; omega
 refine ⟨ok,⟨fun k hk he=>?_,fun k hk he ns hns r hr=>?_,fun k hk he r hr=>?_⟩,mx,my,ex,ey,each'⟩
 ·rcases (mem k).mp hk with z | z
  ·rw [z]
   show z0h x due x=Lad.maxL Lad.uno (rs0.map _)
   rw [hρx]
   rcases h0 with z | z <;> rw [z]
   ·rfl
   ·show _=Lad.maxL Lad.uno [clm b _ (.nil,.nil)]
    rw [z4p,max1 _ Lad.R.uno (by simp [Lad.uno])]
  ·rw [z]
   show z0h x due y=Lad.maxL Lad.uno (rs1.map _)
   rw [hρy]
   rcases h1 with ⟨z,z2⟩ | ⟨z,z2⟩ <;> rw [z,z2]
   ·rfl
   ·show _=Lad.maxL Lad.uno [clm b _ _]
    rw [<- z2,clm1,z2,max1 _ (by rw [<- z2,hd]; exact ⟨_,by decide,g1⟩) (by rw [<- z2,hd]; simp)]
 ·rcases (mem k).mp hk with z | z
  ·rw [z] at hr
   rw [r0 r hr]
   exact z9f b _ ns
  ·rw [z] at hr hns
   have er:=r1 r hr
   rw [er]
   have hns':∀ m:Int,(lf x m=(lf x once)\/lf x m=lf x each)->(x ∈ ns\/lf x m=.nil):=fun m hm=>by
    by_cases m0:lf x m=.nil
    ·exact .inr m0
    ·refine .inl (hns x ?_)
     have:=z0p ok ky
     show x ∈ adj b (⟨y,w1,rs1⟩:Kd).n
     rw [this]
     refine z0a hr (x:=((x,.nil),m)) ?_
     have hw:((x,Gr.nil),m) ∈ (lf x m).within:=by
      unfold lf at m0 ⊢
      split
      ·rename_i h; rw [if_pos h] at m0; exact absurd rfl m0
      ·simp [Gr.within]
     rw [er]
     rcases hm with h | h
     ·exact mal _ (by rw [<- h]; exact hw)
     ·exact mar _ (by rw [<- h]; exact hw)
   have sz:∀ m:Int,0<=m->(Gr.rk b (z0h x due) (lf x m)).deep<=1/\(Gr.rk b (z0h x due) (lf x m)).parts<=1:=fun m hm=>by
    rw [lfrk m hm]
    unfold Lad.num
    refine ⟨?_,?_⟩ <;> split
    ·exact Nat.zero_le _
    ·exact Nat.le_refl _
    ·exact Nat.zero_le _
    ·exact Nat.le_refl _
   obtain ⟨a1,a2⟩:=sz once o0
   obtain ⟨a3,a4⟩:=sz each e0
   exact ⟨lfit ns once (hns' once (.inl rfl)) o0 o1,lfit ns each (hns' each (.inr rfl)) e0 e1,by show (Gr.rk b _ (lf x once)).deep<=24; omega,by show (Gr.rk b _ (lf x each)).deep<=24; omega,by show (Gr.rk b _ (lf x once)).parts<=390; omega,by show (Gr.rk b _ (lf x each)).parts<=390; omega⟩
 ·rcases (mem k).mp hk with z | z
  ·rw [z] at hr
   rw [r0 r hr,z4p]; show 1<=45; decide
  ·rw [z] at hr
   rw [r1 r hr,clm1]
   unfold du39
   split
   ·show 2<=45; decide
   ·show 1<=45; decide
theorem B39.fit {b:Bk} {x y:Str} {due:Lad} (h:B39 b x y due) {g:Gr} (hn:Gr.Named b.names g) (ho:g.Ok (2 ^ 119)) (hp:g.parts<=4) (he:∀ z ∈ g.within,EndK b z.1.1):∀ ns,(∀ n ∈ b.names,EndK b n->n ∈ ns)->Gr.Fit b (z0h x due) ns g:=fun ns hns=>by
 have hn2:Gr.Named (g.within.map (·.1.1)) g:=fun z hz=>List.mem_map.mpr ⟨z,hz,rfl⟩
 have dp:=g.deep_parts
 refine (Gr.rk_fitX (P:=2) (D:=2) (x:=31) (fun n hm=>?_) (by decide) hn2 ho (by omega) (by omega) (by omega)).mono fun n hm=>?_
 ·obtain ⟨z,hz,rfl⟩:=List.mem_map.mp hm
  exact ⟨hn z hz,h.each _ (hn z hz)⟩
 ·obtain ⟨z,hz,rfl⟩:=List.mem_map.mp hm
  exact hns _ (hn z hz) (he z hz)
theorem S_one (e:Lad) (m:Int) (z:Lad):Lad.S (.cons e m .nil) z=if e=z then m else 0:=by
 show Lad.sumAt [(e,m)] z=_
 rw [Lad.sumAt_cons,Lad.sumAt_nil,Int.add_zero]
namespace Gr
variable {b:Bk} {C:Int} {g:Gr}
def up88:List Nat->List Nat
 | []=>[]
 | [a]=>[a]
 | a::c::r=>(a+1+(up88 (c::r)).headD 0)::up88 (c::r)
def Lv:List Nat->Gr->Prop
 | [],g=>g=.nil
 | a::r,g=>g.parts<=a/\∀ p ∈ g.ps,Lv r p.1.2
theorem Lv.head:∀ {as:List Nat} {g:Gr},Lv as g->g.parts<=as.headD 0
 | [],g,h=>by rw [show g=.nil from h]; exact Nat.le_refl _
 | a::r,g,h=>h.1
theorem Lv.deep:∀ {as:List Nat} {g:Gr},Lv as g->g.deep<=as.length
 | [],g,h=>by rw [show g=.nil from h]; exact Nat.le_refl _
 | a::r,g,h=>deep_le fun p hp=>by
  have:=Lv.deep (h.2 p hp)
  show _ < r.length+1
  omega
theorem Lv.up:∀ {as:List Nat} {g:Gr},Lv as g->Lv (up88 as) g
 | [],g,h=>h
 | [a],g,h=>h
 | a::c::r,g,h=>⟨by have:=h.1; show g.parts<=a+1+_; omega,fun p hp=>Lv.up (h.2 p hp)⟩
theorem Lv.stk {ns:Unit}:∀ {pl:Pl} {as:List Nat} {g:Gr} {k:Str},Lv as g->bareAt g pl=some k->Lv (up88 as) (stk b 0 .nil pl g).1
 | [],_,_,_,_,h=>nomatch h
 | i::r,[],g,k,hl,h=>by
  rw [show g=.nil from hl] at h
  cases h
 | i::r,a::as,g,k,hl,h=>by
  by_cases hr:r=[]
  ·subst hr
   obtain ⟨p,e,_⟩:=bare_one h
   rw [stk_one e]
   refine Lv.up (as:=a::as) ⟨?_,fun q hq=>?_⟩
   ·have h1:=tgt_parts (wo g p.1 1) .nil
    have h2:=wo_parts g p.1 1
    have h3:=hl.1
    have h4:(Gr.nil).parts=0:=rfl
    show (tgt (wo g p.1 1) .nil).parts<=a
    omega
   ·rw [show (tgt (wo g p.1 1) .nil,([]:Pl)).1=tgt (wo g p.1 1) .nil from rfl,tgt_ps] at hq
    obtain ⟨q2,hq2,e2⟩:=z1b (enc:=tEnc) _ q hq
    rw [<- e2]
    rcases List.mem_append.mp hq2 with hq2 | hq2
    ·rw [wo_ps] at hq2
     obtain ⟨q3,hq3,e3⟩:=woL_key hq2
     rw [<- e3]
     exact hl.2 q3 hq3
    ·cases hq2
  ·obtain ⟨p,e,h2⟩:=bare_more hr h
   have pm:=List.mem_of_getElem? e
   cases as with
   | nil =>
    have:=hl.2 p pm
    rw [show p.1.2=.nil from this] at h2
    cases r with
    | nil=>exact absurd rfl hr
    | cons j r=>cases h2
   | cons c as =>
    have ih:=Lv.stk (ns:=ns) (hl.2 p pm) h2
    rw [stk_more e hr]
    refine ⟨?_,fun q hq=>?_⟩
    ·have h1:=tgt_parts (wo g p.1 1) (one (chg b 0 .nil r p) (1+b.far p.1.1 0))
     have h2:=wo_parts g p.1 1
     have h3:=hl.1
     have h4:(one (chg b 0 .nil r p) (1+b.far p.1.1 0)).parts=1+(Gr.stk b 0 .nil r p.1.2).1.parts+0:=rfl
     have h5:=ih.head
     show (tgt (wo g p.1 1) (one (chg b 0 .nil r p) (1+b.far p.1.1 0))).parts<=a+1+_
     omega
    ·have hq:q ∈ (tgt (wo g p.1 1) (one (chg b 0 .nil r p) (1+b.far p.1.1 0))).ps:=hq
     rw [tgt_ps] at hq
     obtain ⟨q2,hq2,e2⟩:=z1b (enc:=tEnc) _ q hq
     rw [<- e2]
     rcases List.mem_append.mp hq2 with hq2 | hq2
     ·rw [wo_ps] at hq2
      obtain ⟨q3,hq3,e3⟩:=woL_key hq2
      rw [<- e3]
      exact Lv.up (hl.2 q3 hq3)
     ·rw [one_ps,List.mem_singleton] at hq2
      rw [hq2]
      exact ih
def dn88:Nat->Nat->List Nat
 | 0,_=>[]
 | n+1,m=>m::dn88 n (m-1)
def lv88:Nat->List Nat
 | 0=>dn88 4 12
 | j+1=>up88 (lv88 j)
/-- behind j falls -/
structure At88 (ns:List Str) (j:Nat) (g:Gr):Prop where
 lv:Lv (lv88 j) g
 ok:g.Ok (60*10 ^ 58+1+3*j)
 nm:Named ns g
theorem At88.step {ns:List Str} {j:Nat} {g:Gr} {pl:Pl} {k:Str} (h:At88 ns j g) (hb:bareAt g pl=some k):At88 ns (j+1) (Gr.stk b 0 .nil pl g).1 :=
 ⟨h.lv.stk (ns:=()) hb,(stk_ok (b:=b) (fr:=.nil) (F:=1) (Int.le_refl 0) (by decide) trivial h.ok hb).mono (by push_cast; omega),stk_named (fun x hx=>absurd hx nmn) hb h.nm⟩
theorem lv88_len:∀ j,j < 7->(lv88 j).length=4/\(lv88 j).headD 0<=1000:=by decide
end Gr
theorem Gr.At88.size {ns:List Str} {j:Nat} {g:Gr} (h:Gr.At88 ns j g) (hj:j<=6):g.deep<=4/\g.parts<=1000/\g.Ok (2 ^ 199):=by
 obtain ⟨h1,h2⟩:=Gr.lv88_len j (by omega)
 have h3:=h.lv.deep
 have h4:=h.lv.head
 refine ⟨by omega,by omega,h.ok.mono ?_⟩
 have:(60*10 ^ 58+1+3*6:Int)<=2 ^ 199:=by decide
 omega
def z1g (K:PySem.W.Frag) (m:Nat):Sp:=fun vs H Q _=>∃ (p nl l:Addr) (ks:List Str) (u c:Nat),vs=[.ref p,.ref nl,.int (u:Int),.ref l]/\Pu H p/\(H nl=some (.lst (ks.map V.str))/\nl ≠ p/\nl ≠ l/\ks.length<=8/\∀ k ∈ ks,z01 k)/\(H l=some (.lst [.int (c:Int)])/\l ≠ p)/\1<=u/\u<=m/\u<=10/\c<=10 /\
 ∀ (v:V) (t:Gr) (d:Nat) (H':Hp),SB [p,l] H H'->Pu H' p->H' l=some (.lst [.int (d:Int)])->GA K H' v t->t.Ok (10 ^ 9+1)->t.parts+d<=c->t.deep<=u->Gr.Named ks t->Q v H'
theorem Gr.ok_less {C D:Int} {g:Gr} (h:g.Ok C) (k:∀ p ∈ g.ps,p.1.2.Ok D/\p.2 < D):g.Ok D:=by
 obtain ⟨h1,h2⟩:=Gr.ok_iff.mp h
 refine Gr.ok_iff.mpr ⟨fun p hp=>?_,h2⟩
 obtain ⟨a,_,c,_⟩:=h1 p hp
 exact ⟨a,(k p hp).1,c,(k p hp).2⟩
/-- while left != []: of a list whose things hold lists -/
theorem z9b {K:PySem.W.Frag} {β:Type} {enc:β->PyData} {j:Nat} {D:Addr} {tb rest:TS} {De:L2.Ends} {σ:L2.St} {H:Hp} (meas:List β->Nat) (Pv:List β->L2.St->Hp->Prop) {ws0:List β} (h0:Pv ws0 σ H)
  (hl:∀ ws σ H,Pv ws σ H->σ[j]?=some (some (.ref D))/\∃ us,H D=some (.lst us)/\DpAll K H us (ws.map enc)) (hsh:∀ ws σ H,Pv ws σ H->SeqAt.shaped (.list (ws.map enc))=true)
  (hk:∀ ws σ H z,Pv ws σ H->H z=none->Pv ws σ (upd H z (.lst [])))
  (step:∀ ws σ H,ws ≠ []->Pv ws σ H->tb { De with nx:=fun σ' H'=>∃ ws',meas ws' < meas ws/\Pv ws' σ' H',ct:=fun σ' H'=>∃ ws',meas ws' < meas ws/\Pv ws' σ' H',bk:=rest De } σ H)
  (done:∀ σ H,Pv [] σ H->rest De σ H):tSeq (tWhile (tTest (tOp (rNeD K) (tVar j) (tLst tNil))) tb) rest De σ H:=by
 refine ⟨fun m σ H=>∃ ws,m=meas ws/\Pv ws σ H,⟨_,ws0,rfl,h0⟩,fun m σ1 H1 h1=>?_⟩
 obtain ⟨ws,rfl,p1⟩:=h1
 obtain ⟨e1,us,hD1,hb1⟩:=hl ws σ1 H1 p1
 refine ⟨_,e1,(by show 0<=sizeLine; decide),fun z0 hz0=>?_⟩
 have p2:=hk ws σ1 H1 z0 p1 hz0
 obtain ⟨_,us2,hD2,hb2⟩:=hl ws σ1 _ p2
 refine ⟨.list (ws.map enc),.list [],?_,Dp.lst (SqL.of upd_same) .nil,hsh ws σ1 H1 p1,by decide +kernel,_,rfl,?_⟩
 ·have t2:=SB.new (ps:=[]) hz0 (.lst [])
  have hD3:=t2.keep _ _ hD1 nmn
  rw [hD2] at hD3
  cases hD3
  exact Dp.lst (SqL.of hD2) hb2
 by_cases he:ws=[]
 ·subst he
  exact iteF (done _ _ p2)
 ·have ez:(!PyData.eqv (.list (ws.map enc)) (.list []))=true:=by
   cases ws with
   | nil=>exact absurd rfl he
   | cons _ _=>simp [PyData.eqv,PyData.eqvAll]
  rw [ez]
  exact iteT ⟨_,fun σ' H' ⟨ws',h1,h2⟩=>⟨_,h1,ws',rfl,h2⟩,step ws σ1 _ he p2⟩
def z3q (K:PySem.W.Frag):Sp:=fun vs H Q _=>∃ (l:Addr) (xs:List V) (b:Bk) (n:Str),vs=[.ref l,.str n]/\H l=some (.lst xs)/\KdAll K H [] xs b/\b.Ok/\n ∈ b.names/\∀ (D:Addr) (ss:List Str) (H':Hp),SB [] H H'->H D=none->H' D=some (.lst (ss.map V.str))->ss.length<=100->(∀ x,x ∈ ss ↔ Rch b n x)->Q (.ref D) H'
def z7a (K:PySem.W.Frag):Sp:=fun vs H Q _=>∃ (l:Addr) (xs:List V) (b:Bk),vs=[.ref l]/\H l=some (.lst xs)/\KdAll K H [] xs b/\b.Ok/\∀ (d:Addr) (ss:List Str) (H':Hp),SB [] H H'->H d=none->H' d=some (.lst (ss.map V.str))->sortedS ss=true->ss.Nodup->(∀ n,n ∈ ss ↔ n ∈ b.names/\¬ EndK b n)->Q (.ref d) H'
/-- names not yet among those found -/
def misN (b:Bk) (fs:List Str):Nat:=(b.names.filter fun x=>decide (x ∉ fs)).length
theorem za1 (b:Bk) (fs:List Str):misN b fs<=b.length:=by
 have:=List.length_filter_le (fun x=>decide (x ∉ fs)) b.names
 rw [List.length_map] at this
 exact this
theorem zda {b:Bk} {fs more:List Str} (h:∀ x ∈ more,x ∈ b.names/\x ∉ fs) (hl:more.length<=4):more.length+5*misN b (fs++more)<=5*misN b fs:=by
 cases more with
 | nil=>simp
 | cons x r =>
  obtain ⟨hx,hn⟩:=h x (mcs ..)
  have:misN b (fs++x::r) < misN b fs:=by
   refine z2j (fun y _ hy=>?_) ⟨x,hx,decide_eq_true hn,?_⟩
   ·have hy:=of_decide_eq_true hy
    exact decide_eq_true fun z=>hy (mal _ z)
   ·exact decide_eq_false fun z=>z (mar _ (mcs ..))
  omega
/-- a begin of a grove,with lesser numbers -/
inductive Low:Gr->Gr->Prop
 | nil {g:Gr}:Low .nil g
 | cons {k:Str} {h r s:Gr} {m n:Int}:1<=m->m<=n->Low r s->Low (.cons k h m r) (.cons k h n s)
/-- a book and one with a rule more: of the kind at u -/
structure More (b c:Bk) (u:Nat) (below:Bool):Prop where
 ok:c.Ok
 few:∀ k ∈ c,∀ r ∈ k.rs,r.1.parts+r.2.parts<=3
 is:∃ (k:Kd) (i:Nat) (r:Ru),b[u]?=some k/\c=b.set u ⟨k.n,k.w,k.rs.take i++[r]++k.rs.drop i⟩/\(below=true->∃ s ∈ k.rs,Low r.1 s.1/\Low r.2 s.2)
namespace Gr
variable {b:Bk} {ρ σ:Str->Lad} {C:Int} {ns:List Str}
theorem rk_numsY {x:Nat} (hk:∀ n ∈ ns,(ρ n).Ok (2 ^ x)):∀ {g:Gr},Named ns g->g.Ok (2 ^ 30)->(∀ l ∈ rkT b ρ g,l.Ok (2 ^ (x+32*g.parts)))/\∀ y,((rkT b ρ g).map fun l=>Lad.S l y).sum < 2 ^ (x+32*g.parts)
 | .nil,_,_=>And.intro (fun l hl=>nomatch hl) (fun y=>by
  show (0:Int) < _
  have:=z05 (x+32*Gr.nil.parts); omega)
 | .cons k g m r,h,ho=>by
  obtain ⟨_,hg,hm1,hm2,hr,_⟩:=ho
  have hkn:k ∈ ns:=h ((k,g),m) (mcs ..)
  obtain ⟨g1,g2⟩:=rk_numsY hk (g:=g) (fun x hx=>h x (mcm _ (mal _ hx))) hg
  obtain ⟨r1,r2⟩:=rk_numsY hk (g:=r) (fun x hx=>h x (mcm _ (mar _ hx))) hr
  have e1:(Gr.cons k g m r).parts=1+g.parts+r.parts:=rfl
  have p0:=z05 (x+32*g.parts)
  have px:=z05 x
  have io:(Lad.bths (rkT b ρ g)).Ok (2 ^ (x+32*g.parts)):=Lad.bths_ok g1 (by omega) (Int.le_refl _) g2
  have lo:=Lad.lad_ok (w:=b.wide k) (hk k hkn) io px p0
  have m1:=z08 (show x<=x+32*g.parts by omega)
  have lo2:(lad (b.wide k) (ρ k) (Lad.bths (rkT b ρ g))).Ok (2 ^ (x+32*g.parts+1)):=lo.mono (by rw [z0m]; omega)
  have to:=Lad.tms_ok lo2 (show 0<=m by omega)
  have q0:=z05 (x+32*g.parts+1)
  have hb:2 ^ (x+32*g.parts+1)*m+2 ^ (x+32*g.parts+1)<=2 ^ (x+32*g.parts+31):=by
   have:(2:Int) ^ (x+32*g.parts+31)=2 ^ (x+32*g.parts+1)*2 ^ 30:=by rw [<- Int.pow_add]
   rw [this]
   have h2:(2:Int) ^ (x+32*g.parts+1)*(m+1)<=2 ^ (x+32*g.parts+1)*2 ^ 30:=Int.mul_le_mul_of_nonneg_left (by omega) (by omega)
   rw [Int.mul_add,Int.mul_one] at h2
   exact h2
  have to2:=to.mono hb
  have w1:=z08 (show x+32*g.parts+31<=x+32*(1+g.parts+r.parts)-1 by omega)
  have w2:=z08 (show x+32*r.parts<=x+32*(1+g.parts+r.parts)-1 by omega)
  have w3:=z0m (x+32*(1+g.parts+r.parts)-1)
  rw [show x+32*(1+g.parts+r.parts)-1+1=x+32*(1+g.parts+r.parts) by omega] at w3
  have w0:=z05 (x+32*(1+g.parts+r.parts)-1)
  rw [e1]
  refine ⟨fun l hl=>?_,fun y=>?_⟩
  ·rcases List.mem_cons.mp hl with rfl | hl
   ·exact to2.mono (by omega)
   ·exact (r1 l hl).mono (by omega)
  ·show Lad.S (Lad.tms (lad (b.wide k) (ρ k) (Lad.bths (rkT b ρ g))) m) y+((rkT b ρ r).map fun l=>Lad.S l y).sum < _
   have s2:=r2 y
   have s3:Lad.S (Lad.tms (lad (b.wide k) (ρ k) (Lad.bths (rkT b ρ g))) m) y < 2 ^ (x+32*g.parts+31)\/Lad.S (Lad.tms (lad (b.wide k) (ρ k) (Lad.bths (rkT b ρ g))) m) y<=0:=by
    rcases Lad.S_cases to2 y with ⟨h1,_⟩ | ⟨mm,_,h2,_,h4⟩
    ·right; omega
    ·left; omega
   have w4:=z05 (x+32*g.parts+31)
   rcases s3 with s3 | s3 <;> omega
theorem rk_fitY {P D x:Nat} (hk:∀ n ∈ ns,n ∈ b.names/\ρ n ≠ .nil/\(ρ n).parts<=P/\(ρ n).deep<=D/\(ρ n).Ok (2 ^ x)) (hP:1<=P):∀ {g:Gr},Named ns g->g.Ok (2 ^ 30)->P*g.parts<=390->D+g.deep<=24->x+32*g.parts<=2000->Fit b ρ ns g
 | .nil,_,_,_,_,_=>trivial
 | .cons k g m r,h,ho,hp,hd,hx=>by
  have hP':∀ n ∈ ns,(ρ n).parts<=P/\(ρ n).deep<=D:=fun n hn=>⟨(hk n hn).2.2.1,(hk n hn).2.2.2.1⟩
  have hX':∀ n ∈ ns,(ρ n).Ok (2 ^ x):=fun n hn=>(hk n hn).2.2.2.2
  have nm:2 ^ 30<=(2:Int) ^ 2000:=z08 (by decide)
  obtain ⟨hkn,hnn⟩:k ∈ ns/\(Named ns g/\Named ns r):=⟨h ((k,g),m) (mcs ..),fun x hx=>h x (mcm _ (mal _ hx)),fun x hx=>h x (mcm _ (mar _ hx))⟩
  obtain ⟨ok0,hg,hm1,hm2,hr,hrise⟩:=ho
  have ho:(Gr.cons k g m r).Ok (2 ^ 30):=⟨ok0,hg,hm1,hm2,hr,hrise⟩
  have e1:(Gr.cons k g m r).parts=1+g.parts+r.parts:=rfl
  have e2:(Gr.cons k g m r).deep=max (1+g.deep) r.deep:=rfl
  rw [e1,Nat.mul_add,Nat.mul_add,Nat.mul_one] at hp
  rw [e1] at hx
  obtain ⟨s1,s2⟩:=rk_size hP' h
  obtain ⟨g1,g2⟩:=rk_size hP' hnn.1
  obtain ⟨n1,n2⟩:=rk_numsY hX' hnn.1 hg
  have p0:=z05 (x+32*g.parts)
  have px:=z05 x
  have io:(Lad.bths (rkT b ρ g)).Ok (2 ^ (x+32*g.parts)):=Lad.bths_ok n1 (by omega) (Int.le_refl _) n2
  have lo:=(Lad.lad_ok (w:=b.wide k) (hX' k hkn) io px p0)
  have m1:=z08 (show x<=x+32*g.parts by omega)
  have m2:=z08 (show x+32*g.parts+1<=2000 by omega)
  have m3:=z0m (x+32*g.parts)
  obtain ⟨kb,kne,kp,kd,kx⟩:=hk k hkn
  have num:∀ {l:Lad},l.Ok (2 ^ 2000)->∀ p ∈ l.ps,0<=p.2/\p.2 < 2 ^ 2000:=fun hl p hp=>by
   have:=(Lad.ok_iff.mp hl).1 p hp
   exact ⟨by omega,this.2.2⟩
  have ip:(Lad.bths (rkT b ρ g)).parts<=P*g.parts:=Nat.le_trans (Lad.bths_parts _) g1
  have idp:(Lad.bths (rkT b ρ g)).deep<=D+g.deep:=Lad.bths_deep g2
  have lp:=Lad.lad_parts (b.wide k) (ρ k) (Lad.bths (rkT b ρ g))
  have ld:=Lad.lad_deep (w:=b.wide k) (o:=ρ k) (l:=Lad.bths (rkT b ρ g)) (n:=D+g.deep) (by omega) idp
  refine ⟨⟨hkn,kb,kne,⟨by omega,by omega,num (kx.mono (by omega))⟩,⟨by show (Lad.bths (rkT b ρ g)).deep<=25; omega,by show (Lad.bths (rkT b ρ g)).parts<=900; omega,num (io.mono (by omega))⟩,⟨by show (lad (b.wide k) (ρ k) (Lad.bths (rkT b ρ g))).deep<=25; omega,by show (lad (b.wide k) (ρ k) (Lad.bths (rkT b ρ g))).parts<=900; omega,num (lo.mono (by omega))⟩,by omega,by omega,?_⟩,rk_fitY hk hP hnn.1 hg (by omega) (by omega) (by omega),rk_fitY hk hP hnn.2 hr (by omega) (by omega) (by omega)⟩
  have key:∀ ls:List Lad,(ls.flatMap Lad.ps).length<=(ls.map Lad.parts).sum:=by
   intro ls
   induction ls with
   | nil=>exact Nat.le_refl _
   | cons l r ih =>
    rw [List.flatMap_cons,List.length_append,List.map_cons,List.sum_cons,Lad.ps_length]
    have:=l.len_parts
    omega
  have:=key (rkT b ρ (.cons k g m r))
  rw [e1,Nat.mul_add,Nat.mul_add,Nat.mul_one] at s1
  exact Nat.le_trans (Nat.le_trans this s1) (by omega)
end Gr
theorem z6o {b:Bk} {ρ:Str->Lad} {ns:List Str} {P D x m:Nat} {r:Ru} (hk:∀ n ∈ ns,(ρ n).parts<=P/\(ρ n).deep<=D) (hx:∀ n ∈ ns,(ρ n).Ok (2 ^ x)) (h1:Gr.Named ns r.1) (h2:Gr.Named ns r.2) (o1:r.1.Ok (2 ^ 30)) (o2:r.2.Ok (2 ^ 30)) (hs:r.1.parts+r.2.parts<=m) (hD:2<=D) :
  (clm b ρ r).parts<=m*P+2/\(clm b ρ r).deep<=D+m/\(clm b ρ r).Ok (2 ^ (x+32*m+2))/\(Gr.rk b ρ r.1).deep<=D+m/\(Gr.rk b ρ r.2).deep<=D+m/\(Gr.rk b ρ r.1).parts<=m*P/\(Gr.rk b ρ r.2).parts<=m*P:=by
 obtain ⟨a1,a2⟩:=Gr.rk_size (b:=b) hk h1
 obtain ⟨b1,b2⟩:=Gr.rk_size (b:=b) hk h2
 obtain ⟨c1,c2⟩:=Gr.rk_numsY (b:=b) hx h1 o1
 obtain ⟨d1,d2⟩:=Gr.rk_numsY (b:=b) hx h2 o2
 have w1:=z07 r.1
 have w2:=z07 r.2
 have p1:(Gr.rk b ρ r.1).parts<=P*r.1.parts:=Nat.le_trans (Lad.bths_parts _) a1
 have p2:(Gr.rk b ρ r.2).parts<=P*r.2.parts:=Nat.le_trans (Lad.bths_parts _) b1
 have q1:(Gr.rk b ρ r.1).deep<=D+r.1.deep:=Lad.bths_deep a2
 have q2:(Gr.rk b ρ r.2).deep<=D+r.2.deep:=Lad.bths_deep b2
 have e1:=z05 (x+32*r.1.parts)
 have e2:=z05 (x+32*r.2.parts)
 have k1:(Gr.rk b ρ r.1).Ok (2 ^ (x+32*r.1.parts)):=Lad.bths_ok c1 (by omega) (Int.le_refl _) c2
 have k2:(Gr.rk b ρ r.2).Ok (2 ^ (x+32*r.2.parts)):=Lad.bths_ok d1 (by omega) (Int.le_refl _) d2
 have ko:=Lad.abv_ok k1 k2 e1 e2
 have hm:P*r.1.parts+P*r.2.parts<=m*P:=by
  rw [<- Nat.mul_add,Nat.mul_comm m P]
  exact Nat.mul_le_mul_left _ hs
 have ap:=Lad.abv_parts (Gr.rk b ρ r.1) (Gr.rk b ρ r.2)
 have ad:=Lad.abv_deep (n:=D+m) (l:=Gr.rk b ρ r.1) (k:=Gr.rk b ρ r.2) (by omega) (by omega) (by omega)
 have m1:=z08 (show x+32*r.1.parts<=x+32*m by omega)
 have m2:=z08 (show x+32*r.2.parts<=x+32*m by omega)
 have m3:=z0m (x+32*m)
 have m4:(2:Int) ^ (x+32*m+2)=2*2 ^ (x+32*m+1):=z0m (x+32*m+1)
 have m5:=z05 (x+32*m)
 exact ⟨by unfold clm; omega,ad,ko.mono (by omega),by omega,by omega,by omega,by omega⟩
theorem Low.ok {C:Int}:∀ {t g:Gr},Low t g->g.Ok C->t.Ok C/\∀ p ∈ t.ps,∃ q ∈ g.ps,q.1=p.1:=by
 intro t g h
 induction h with
 | nil=>exact fun _=>⟨trivial,fun p hp=>nomatch hp⟩
 | @cons k h r s m n h1 h2 _ ih =>
  rintro ⟨a,b,c,d,e,f⟩
  obtain ⟨i1,i2⟩:=ih e
  refine ⟨⟨a,b,h1,by omega,i1,fun p hp=>?_⟩,fun p hp=>?_⟩
  ·obtain ⟨q,hq,eq⟩:=i2 p hp
   rw [<- eq]; exact f q hq
  ·rcases List.mem_cons.mp hp with e | hp
   ·exact ⟨((k,h),n),mcs ..,by rw [e]⟩
   ·obtain ⟨q,hq,eq⟩:=i2 p hp
    exact ⟨q,mcm _ hq,eq⟩
theorem Low.parts {t g:Gr} (h:Low t g):t.parts<=g.parts:=by
 induction h with
 | nil=>exact Nat.zero_le _
 | @cons k h r s m n _ _ _ ih=>show 1+h.parts+r.parts<=1+h.parts+s.parts; omega
theorem Low.within {t g:Gr} (h:Low t g):∀ x ∈ t.within,∃ y ∈ g.within,y.1=x.1:=by
 induction h with
 | nil=>exact fun x hx=>absurd hx nmn
 | @cons k h r s m n _ _ _ ih =>
  intro x hx
  rcases List.mem_cons.mp hx with e | hx
  ·exact ⟨((k,h),n),mcs ..,by rw [e]⟩
  ·rcases List.mem_append.mp hx with hx | hx
   ·exact ⟨x,mcm _ (mal _ hx),rfl⟩
   ·obtain ⟨y,hy,e⟩:=ih x hx
    exact ⟨y,mcm _ (mar _ hy),e⟩
theorem z9s:∀ {b:Bk} {u:Nat} {k k':Kd},b[u]?=some k->k'.n=k.n->b.names.Nodup->∀ n,Bk.get (b.set u k') n=if n=k.n then some k' else b.get n
 | [],u,k,k',h,_,_,n=>by simp at h
 | x::r,0,k,k',h,e,nd,n=>by
  have hx:x=k:=by simpa using h
  subst hx
  show Bk.get (k'::r) n=_
  unfold Bk.get
  rw [List.find?_cons,List.find?_cons]
  by_cases hn:n=x.n
  ·rw [if_pos hn,decide_eq_true (show k'.n=n by rw [e,hn])]
  ·rw [if_neg hn,decide_eq_false (show ¬ k'.n=n from fun z=>hn (by rw [<- z,e])),decide_eq_false (show ¬ x.n=n from fun z=>hn z.symm)]
 | x::r,u+1,k,k',h,e,nd,n=>by
  have h':r[u]?=some k:=by simpa using h
  have nd':x.n ∉ Bk.names r/\(Bk.names r).Nodup:=List.nodup_cons.mp nd
  have ih:=z9s (k':=k') h' e nd'.2 n
  have km:k.n ∈ Bk.names r:=List.mem_map.mpr ⟨k,List.mem_of_getElem? h',rfl⟩
  show Bk.get (x::r.set u k') n=_
  unfold Bk.get at ih ⊢
  rw [List.find?_cons,List.find?_cons]
  by_cases hx:x.n=n
  ·rw [decide_eq_true hx]
   have:n ≠ k.n:=fun z=>nd'.1 (by rw [hx,z]; exact km)
   rw [if_neg this]
  ·rw [decide_eq_false hx]
   exact ih
namespace More
variable {b c:Bk} {u:Nat} {w:Bool}
/-- what a rule more leaves -/
theorem facts (ok:b.Ok) (h:More b c u w):∃ (k k':Kd) (r:Ru),b.get k.n=some k/\k ∈ b/\k'.n=k.n/\k'.w=k.w/\c.names=b.names/\(∀ n,c.get n=if n=k.n then some k' else b.get n)/\(∀ x,x ∈ k'.rs ↔ x ∈ k.rs\/x=r)/\(w=true->∃ s ∈ k.rs,Low r.1 s.1/\Low r.2 s.2)/\b[u]?=some k:=by
 obtain ⟨k,i,r,hk,rfl,hw⟩:=h.is
 have km:=List.mem_of_getElem? hk
 refine ⟨k,⟨k.n,k.w,k.rs.take i++[r]++k.rs.drop i⟩,r,Bk.get_self ok.nd km,km,rfl,rfl,z7z hk rfl,z9s hk rfl ok.nd,fun x=>?_,hw,hk⟩
 show x ∈ k.rs.take i++[r]++k.rs.drop i ↔ _
 have e:x ∈ k.rs ↔ x ∈ k.rs.take i\/x ∈ k.rs.drop i:=by
  conv=>lhs; rw [<- List.take_append_drop i k.rs]
  exact List.mem_append
 rw [List.mem_append,List.mem_append,List.mem_singleton,e]
 constructor
 ·rintro ((h | h) | h)
  ·exact .inl (.inl h)
  ·exact .inr h
  ·exact .inl (.inr h)
 ·rintro ((h | h) | h)
  ·exact .inl (.inl h)
  ·exact .inr h
  ·exact .inl (.inr h)
theorem wide (ok:b.Ok) (h:More b c u w):∀ n,b.wide n=c.wide n:=fun n=>by
 obtain ⟨k,k',r,g1,km,e1,e2,_,g2,_⟩:=h.facts ok
 unfold Bk.wide
 rw [g2 n]
 by_cases hn:n=k.n
 ·rw [if_pos hn,hn,g1]; exact e2.symm
 ·rw [if_neg hn]
theorem adj_sub (ok:b.Ok) (h:More b c u w) {n x:Str} (hx:x ∈ adj b n):x ∈ adj c n:=by
 obtain ⟨k,k',r,g1,km,e1,e2,_,g2,hr,_⟩:=h.facts ok
 by_cases hn:n=k.n
 ·have gc:c.get n=some k':=by rw [g2 n,if_pos hn]
  rw [z33 gc]
  rw [hn,z33 g1] at hx
  obtain ⟨s,hs,hx⟩:=List.mem_flatMap.mp hx
  exact List.mem_flatMap.mpr ⟨s,(hr s).mpr (.inl hs),hx⟩
 ·unfold adj at hx ⊢
  rw [g2 n,if_neg hn]; exact hx
theorem rch (ok:b.Ok) (h:More b c u w) {n x:Str} (hr:Rch b n x):Rch c n x:=by
 induction hr with
 | one g=>exact .one (h.adj_sub ok g)
 | step _ g ih=>exact .step ih (h.adj_sub ok g)
end More
def Pz (m:Nat):Nat->Nat
 | 0=>1
 | c+1=>m*Pz m c+2
theorem zbq (m:Nat):∀ c,1<=Pz m c
 | 0=>Nat.le_refl _
 | c+1=>by show 1<=m*Pz m c+2; omega
structure BndZ (m c:Nat) (l:Lad):Prop where
 ne:l ≠ .nil
 parts:l.parts<=Pz m c
 deep:l.deep<=2+m*c
 ok:l.Ok (2 ^ (2+(32*m+2)*c))
theorem z6d {b:Bk} (ok:b.Ok) {m:Nat} (hm:∀ k ∈ b,EndK b k.n->∀ r ∈ k.rs,r.1.Ok (2 ^ 30)/\r.2.Ok (2 ^ 30)/\r.1.parts+r.2.parts<=m):∀ (c:Nat) (k:Kd),k ∈ b->EndK b k.n->cntR b k.n<=c->BndZ m c (z02 b k.n)
 | c,k,hk,he,hc=>by
  have hadj:=z0p ok hk
  have nm:∀ r ∈ k.rs,Gr.Named (adj b k.n) r.1/\Gr.Named (adj b k.n) r.2:=fun r hr=>⟨fun x hx=>by rw [hadj]; exact z0a hr (mal _ hx),fun x hx=>by rw [hadj]; exact z0a hr (mar _ hx)⟩
  have eq:=z2d ok hk he
  have ne:z02 b k.n ≠ .nil:=fun z=>by
   have:=Lad.maxL_ge (k.rs.map (clm b (z02 b))) Lad.uno Lad.uno (mcs ..)
   rw [<- eq,z] at this
   rw [Lad.lt_nil_cons] at this; cases this
  have p2:=zbq m c
  have x0:(2:Int)<=2 ^ (2+(32*m+2)*c):=by
   have:=z08 (show 1<=2+(32*m+2)*c by omega)
   exact this
  have ofClm:(∀ r ∈ k.rs,(clm b (z02 b) r).parts<=Pz m c/\(clm b (z02 b) r).deep<=2+m*c/\(clm b (z02 b) r).Ok (2 ^ (2+(32*m+2)*c)))->BndZ m c (z02 b k.n):=fun h=>by
   refine ⟨ne,?_,?_,?_⟩ <;> rw [eq] <;> rcases List.mem_cons.mp (Lad.maxL_mem (k.rs.map (clm b (z02 b))) Lad.uno) with e | e
   ·rw [e]; show 1<=_; omega
   ·obtain ⟨r,hr,e⟩:=List.mem_map.mp e
    rw [<- e]; exact (h r hr).1
   ·rw [e]; show 1<=_; omega
   ·obtain ⟨r,hr,e⟩:=List.mem_map.mp e
    rw [<- e]; exact (h r hr).2.1
   ·rw [e]; exact Lad.uno_ok.mono x0
   ·obtain ⟨r,hr,e⟩:=List.mem_map.mp e
    rw [<- e]; exact (h r hr).2.2
  cases c with
  | zero =>
   have h0:adj b k.n=[]:=by
    cases ha:adj b k.n with
    | nil=>rfl
    | cons y ys =>
     have:=z30 ok he (k:=y) (by rw [ha]; exact mcs ..)
     omega
   refine ofClm fun r hr=>?_
   obtain ⟨n1,n2⟩:=nm r hr
   rw [h0] at n1 n2
   have nil_of:∀ g:Gr,Gr.Named [] g->g=.nil:=fun g h=>by
    cases g with
    | nil=>rfl
    | cons k g m r=>exact absurd (h ((k,g),m) (mcs ..)) (by simp)
   have e:r=(.nil,.nil):=Prod.ext (nil_of _ n1) (nil_of _ n2)
   rw [e,z4p]
   exact ⟨by show 1<=1; decide,by show 1<=_; omega,Lad.uno_ok.mono x0⟩
  | succ c =>
   have hch:∀ n ∈ adj b k.n,BndZ m c (z02 b n):=fun n hn=>by
    have hlt:=z30 ok he hn
    obtain ⟨kd,eg⟩:=Bk.get_of (z0k ok hn)
    obtain ⟨hkd,rfl⟩:=Bk.get_some eg
    exact z6d ok hm c kd hkd (he.next hn) (by omega)
   refine ofClm fun r hr=>?_
   obtain ⟨n1,n2⟩:=nm r hr
   obtain ⟨o1,o2,hs⟩:=hm k hk he r hr
   obtain ⟨c1,c2,c3,_⟩:=z6o (b:=b) (ρ:=z02 b) (P:=Pz m c) (D:=2+m*c) (x:=2+(32*m+2)*c) (fun n hn=>⟨(hch n hn).parts,(hch n hn).deep⟩) (fun n hn=>(hch n hn).ok) n1 n2 o1 o2 hs (by omega)
   refine ⟨c1,by rw [Nat.mul_succ]; omega,?_⟩
   have:2+(32*m+2)*(c+1)=2+(32*m+2)*c+32*m+2:=by rw [Nat.mul_succ]; omega
   rw [this]; exact c3
theorem zaz {b:Bk} (ok:b.Ok) {m:Nat} (hm:∀ k ∈ b,EndK b k.n->∀ r ∈ k.rs,r.1.Ok (2 ^ 30)/\r.2.Ok (2 ^ 30)/\r.1.parts+r.2.parts<=m) (hP:m*Pz m (b.length-2)<=390) (hD:2+m*(b.length-2)+m<=24) (hX:2+(32*m+2)*(b.length-2)+32*m<=2000):OwnR b (z02 b)/\∀ n ∈ b.names,EndK b n->BndZ m (b.length-1) (z02 b n):=by
 have hb:∀ n ∈ b.names,EndK b n->BndZ m (b.length-1) (z02 b n):=fun n hn he=>by
  obtain ⟨kd,eg⟩:=Bk.get_of hn
  obtain ⟨hkd,rfl⟩:=Bk.get_some eg
  have:=z6k he hn
  exact z6d ok hm _ kd hkd he (by omega)
 have hch:∀ k ∈ b,EndK b k.n->∀ n ∈ adj b k.n,BndZ m (b.length-2) (z02 b n):=fun k hk he n hn=>by
  obtain ⟨kd,eg⟩:=Bk.get_of (z0k ok hn)
  obtain ⟨hkd,rfl⟩:=Bk.get_some eg
  have h1:=z30 ok he hn
  have h2:=z6k he (List.mem_map.mpr ⟨k,hk,rfl⟩)
  exact z6d ok hm _ kd hkd (he.next hn) (by omega)
 have p2:=zbq m (b.length-2)
 refine ⟨⟨fun k hk he=>z2d ok hk he,fun k hk he ns hns r hr=>?_,fun k hk he r hr=>?_⟩,hb⟩
 ·have hadj:=z0p ok hk
  have n1:Gr.Named (adj b k.n) r.1:=fun x hx=>by rw [hadj]; exact z0a hr (mal _ hx)
  have n2:Gr.Named (adj b k.n) r.2:=fun x hx=>by rw [hadj]; exact z0a hr (mar _ hx)
  obtain ⟨o1,o2,hs⟩:=hm k hk he r hr
  have hc:=hch k hk he
  obtain ⟨_,_,_,d1,d2,q1,q2⟩:=z6o (b:=b) (ρ:=z02 b) (P:=Pz m (b.length-2)) (D:=2+m*(b.length-2)) (x:=2+(32*m+2)*(b.length-2)) (fun n hn=>⟨(hc n hn).parts,(hc n hn).deep⟩) (fun n hn=>(hc n hn).ok) n1 n2 o1 o2 hs (by omega)
  have w1:=z07 r.1
  have w2:=z07 r.2
  have hP1:Pz m (b.length-2)*r.1.parts<=390:=Nat.le_trans (Nat.mul_le_mul_left _ (show r.1.parts<=m by omega)) (by rw [Nat.mul_comm]; exact hP)
  have hP2:Pz m (b.length-2)*r.2.parts<=390:=Nat.le_trans (Nat.mul_le_mul_left _ (show r.2.parts<=m by omega)) (by rw [Nat.mul_comm]; exact hP)
  have hk':∀ n ∈ adj b k.n,n ∈ b.names/\z02 b n ≠ .nil/\(z02 b n).parts<=Pz m (b.length-2)/\(z02 b n).deep<=2+m*(b.length-2)/\(z02 b n).Ok (2 ^ (2+(32*m+2)*(b.length-2))):=fun n hn=>⟨z0k ok hn,(hc n hn).ne,(hc n hn).parts,(hc n hn).deep,(hc n hn).ok⟩
  exact ⟨(Gr.rk_fitY hk' (by omega) n1 o1 hP1 (by omega) (by omega)).mono hns,(Gr.rk_fitY hk' (by omega) n2 o2 hP2 (by omega) (by omega)).mono hns,by omega,by omega,by omega,by omega⟩
 ·have hadj:=z0p ok hk
  have n1:Gr.Named (adj b k.n) r.1:=fun x hx=>by rw [hadj]; exact z0a hr (mal _ hx)
  have n2:Gr.Named (adj b k.n) r.2:=fun x hx=>by rw [hadj]; exact z0a hr (mar _ hx)
  obtain ⟨o1,o2,hs⟩:=hm k hk he r hr
  have hc:=hch k hk he
  obtain ⟨_,d0,_⟩:=z6o (b:=b) (ρ:=z02 b) (P:=Pz m (b.length-2)) (D:=2+m*(b.length-2)) (x:=2+(32*m+2)*(b.length-2)) (fun n hn=>⟨(hc n hn).parts,(hc n hn).deep⟩) (fun n hn=>(hc n hn).ok) n1 n2 o1 o2 hs (by omega)
  omega
def z17 (ps:List (Lad × Int)):Str:=if (ps.all fun p=>p.1.isN)=false then "tower" else if (ps.any fun p=>p.1.over1)=true then "power" else if (ps.all fun p=>decide (p.1=.nil))=true then "number" else "pair"
theorem z84 {B:Int} {l:Lad} (h:l.Ok B):z17 l.ps=l.sortT:=by
 unfold z17 Lad.sortT
 have h0:=(Lad.ok_iff.mp h).1
 have hN:(l.ps.all fun p=>decide (p.1=.nil))=l.isN:=rfl
 rw [hN]
 cases h1:l.isN with
 | true =>
  have e1:∀ p ∈ l.ps,p.1=.nil:=fun p hp=>of_decide_eq_true (List.all_eq_true.mp (hN.trans h1) p hp)
  have e2:(l.ps.all fun p=>p.1.isN)=true:=List.all_eq_true.mpr fun p hp=>by rw [e1 p hp]; rfl
  have e3:(l.ps.any fun p=>p.1.over1)=false:=by
   rw [List.any_eq_false]
   intro p hp
   rw [e1 p hp,Lad.over1_nil]; simp
  rw [e2,e3]; simp
 | false =>
  cases h2:(l.ps.any fun p=>p.1.over1) with
  | false =>
   have e2:(l.ps.all fun p=>p.1.isN)=true:=List.all_eq_true.mpr fun p hp=>by
    cases e:p.1.isN with
    | true=>rfl
    | false =>
     have:=Lad.over1_more (h0 p hp).1 e
     have h3:=(List.any_eq_false.mp h2) p hp
     exact absurd this h3
   rw [e2]; simp
  | true =>
   cases (l.ps.all fun p=>p.1.isN) <;> simp
theorem z4j (as:List (Lad × Int)) (p:Lad × Int) (hA:(as.all fun p=>p.1.isN)=true) (hp:p.1.isN=true):z17 (as++[p])=if p.1.over1=true then ("power":Str) else if z17 as="number"/\p.1 ≠ .nil then ("pair":Str) else z17 as:=by
 unfold z17
 simp only [List.all_append,List.any_append,hA,hp,List.all_cons,List.all_nil,List.any_cons,List.any_nil,Bool.or_false,Bool.and_true]
 have e1:(("power":Str)="number")=False:=by simp; decide +kernel
 have e2:(("pair":Str)="number")=False:=by simp; decide +kernel
 cases h1:p.1.over1 with
 | true=>simp
 | false =>
  cases h2:(as.any fun p=>p.1.over1) with
  | true=>simp [e1]
  | false =>
   cases h3:(as.all fun p=>decide (p.1=.nil)) with
   | true=>by_cases h4:p.1=.nil <;> simp [h4]
   | false=>simp [e2]
/-- t.index(z),t a tuple of texts -/
def zb8 (K:PySem.W.Frag):V->List V->Hp->VK->Prop:=fun x xs H Q=>∃ (p:Addr) (ys:List Str) (z:Str) (j:Nat),x=.ref p/\xs=[.str z]/\SqT K H p (ys.map V.str)/\ys[j]?=some z/\(∀ m,m < j->ys[m]? ≠ some z)/\Q (.int (j:Nat)) H
theorem zcp {X:Cx}:MtR X "tuple.index" (zb8 X.K):=fun pn s σ H x xs v us Q I rx rs ⟨p,ys,z,j,e1,e2,h1,h2,h3,q⟩=>mt_tup_index pn s σ H x xs v us Q I rx rs ⟨p,ys,z,j,e1,e2,h1,h2,h3,q⟩
/-- few small rules -/
def Few2 (b:Bk):Prop:=∀ k ∈ b,k.rs.length<=3/\∀ r ∈ k.rs,r.1.parts+r.2.parts<=2
def z0s (K:PySem.W.Frag):Sp:=fun vs H Q _=>∃ (p:Addr),vs=[.ref p]/\Pu H p/\∀ (L:Addr) (xs:List V) (b:Bk) (H':Hp),SB [p] H H'->Pu H' p->H L=none->H' L=some (.lst xs)->KdAll K H' [L,p] xs b->b.Ok->Few2 b->Q (.ref L) H'
theorem zge {b:Bk} (ok:b.Ok) (hf:Few2 b):OwnR b (z02 b)/\∀ n ∈ b.names,EndK b n->z02 b n ≠ .nil/\(z02 b n).parts<=390/\(z02 b n).deep<=16/\(z02 b n).Ok (2 ^ 2000):=by
 have b1:=ok.pos
 have b8:=ok.len
 have hb:b.length=1\/b.length=2\/b.length=3\/b.length=4\/b.length=5\/b.length=6\/b.length=7\/b.length=8:=by omega
 have e9:(10 ^ 9+1:Int)<=2 ^ 30:=by decide
 obtain ⟨o1,o2⟩:=zaz ok (m:=2) (fun k hk he r hr=>⟨(ok.named hk hr).1.1.mono e9,(ok.named hk hr).1.2.1.mono e9,(hf k hk).2 r hr⟩) (by rcases hb with e | e | e | e | e | e | e | e <;> rw [e] <;> decide) (by omega) (by omega)
 refine ⟨o1,fun n hn he=>⟨(o2 n hn he).ne,Nat.le_trans (o2 n hn he).parts ?_,Nat.le_trans (o2 n hn he).deep ?_,(o2 n hn he).ok.mono (z08 (by omega))⟩⟩
 ·rcases hb with e | e | e | e | e | e | e | e <;> rw [e] <;> decide
 ·omega
/-- the sorts by number -/
def srtI (s:Str):Nat:=if s="number" then 0 else if s="pair" then 1 else if s="power" then 2 else 3
def srtL:List Str:=["number","pair","power","tower"]
theorem Lad.sortT_in (l:Lad):l.sortT ∈ srtL:=by
 unfold Lad.sortT srtL
 split
 ·simp
 ·split
  ·simp
  ·split <;> simp
theorem z36 {s:Str} (h:s ∈ srtL):srtL[srtI s]?=some s/\srtI s < 4/\∀ m,m < srtI s->srtL[m]? ≠ some s:=by
 have key:∀ s ∈ srtL,srtL[srtI s]?=some s/\srtI s < 4/\∀ m,m < 4->m < srtI s->srtL[m]? ≠ some s:=by decide +kernel
 obtain ⟨a,b,c⟩:=key s h
 exact ⟨a,b,fun m hm=>c m (by omega) hm⟩
def nix (ρ:Str->Lad) (n:Str):Int:=(srtI (ρ n).sortT:Nat)
def Need (b:Bk) (ρ:Str->Lad) (s n:Str):Prop:=∃ j:Nat,b.names[j]?=some n/\s=(ρ n).sortT/\(∀ x ∈ b.names,nix ρ x<=nix ρ n)/\∀ (i:Nat) (x:Str),i < j->b.names[i]?=some x->nix ρ x ≠ nix ρ n
theorem Need.uniq {b:Bk} {ρ:Str->Lad} {s n s' n':Str} (h:Need b ρ s n) (h':Need b ρ s' n'):s=s'/\n=n':=by
 obtain ⟨j,e1,e2,h1,h2⟩:=h
 obtain ⟨j',f1,f2,g1,g2⟩:=h'
 have a1:=h1 n' (List.mem_of_getElem? f1)
 have a2:=g1 n (List.mem_of_getElem? e1)
 have hj:j=j':=by
  rcases Nat.lt_trichotomy j j' with z | z | z
  ·exact absurd (show nix ρ n=nix ρ n' by omega) (g2 j n z e1)
  ·exact z
  ·exact absurd (show nix ρ n'=nix ρ n by omega) (h2 j' n' z f1)
 subst hj
 rw [e1] at f1
 cases f1
 exact ⟨e2.trans f2.symm,rfl⟩
/-- (the number of its sort,its name) -/
def nixE (ρ:Str->Lad) (n:Str):PyData:=.tuple [.int (nix ρ n),.str n]
theorem z67 (ρ:Str->Lad) (n:Str):z03 (nixE ρ n)=true:=by simp [nixE,z03,z06]
theorem za3 {K:PySem.W.Frag} {H:Hp} {ρ:Str->Lad} {n:Str} {v:V} (h:Dp K H v (nixE ρ n)):∃ a,v=.ref a/\SqT K H a [.int (nix ρ n),.str n]:=by
 cases h with
 | tup hs hd =>
  cases hd with
  | cons h1 hd =>
   cases hd with
   | cons h2 hd =>
    cases hd
    cases h1
    cases h2
    exact ⟨_,rfl,hs⟩
theorem z7r {p:Str->Bool}:∀ {l:List Str} {n:Str} {r:List Str},l.filter p=n::r->∃ j:Nat,l[j]?=some n/\p n=true/\∀ (i:Nat) (x:Str),i < j->l[i]?=some x->p x=false
 | [],n,r,h=>nomatch h
 | a::l,n,r,h=>by
  cases e:p a with
  | true =>
   rw [List.filter_cons_of_pos e] at h
   cases h
   exact ⟨0,rfl,e,fun i x hi=>by omega⟩
  | false =>
   rw [List.filter_cons_of_neg (by simp [e])] at h
   obtain ⟨j,h1,h2,h3⟩:=z7r h
   refine ⟨j+1,by simpa using h1,h2,fun i x hi hx=>?_⟩
   cases i with
   | zero=>simp at hx; rw [<- hx]; exact e
   | succ i=>exact h3 i x (by omega) (by simpa using hx)
theorem z7y {α:Type} [DecidableEq α] {x:α}:∀ {l:List α},x ∈ l->∃ j:Nat,l[j]?=some x/\∀ (i:Nat),i < j->l[i]? ≠ some x
 | [],h=>nomatch h
 | a::l,h=>by
  by_cases e:a=x
  ·exact ⟨0,by rw [e]; rfl,fun i hi=>by omega⟩
  ·have hx:x ∈ l:=by
    rcases List.mem_cons.mp h with z | z
    ·exact absurd z.symm e
    ·exact z
   obtain ⟨j,h1,h2⟩:=z7y hx
   refine ⟨j+1,by simpa using h1,fun i hi=>?_⟩
   cases i with
   | zero=>simpa using e
   | succ i=>simpa using h2 i (by omega)
def z45 (K:PySem.W.Frag):Sp:=fun vs H Q _=>∃ (v:V) (l:Lad) (B:Int),vs=[v]/\LA K H v l/\l.Ok B/\l.deep<=20/\l.parts<=900/\∀ H',SB [] H H'->Q (.str l.sortT) H'
/-- the ladders of a book whose kinds are not endless -/
def z88 (b:Bk) (ρ:Str->Lad):Prop:=OwnR b ρ/\∀ n ∈ b.names,EndK b n->(ρ n).parts<=390/\(ρ n).deep<=16/\(ρ n).Ok (2 ^ 2000)
def z35 (K:PySem.W.Frag) (C N EE:Addr):Sp:=fun vs H Q E=>∃ (v:V) (b:Bk) (ρ:Str->Lad) (ss:List Str),vs=[v]/\BkA K C H v b/\b.Ok/\z88 b ρ/\(sortedS ss=true/\ss.Nodup/\∀ n,n ∈ ss ↔ n ∈ b.names/\¬ EndK b n)/\(ss=[]->∀ (t:Addr) (s n:Str) (H':Hp),SB [] H H'->SqT K H' t [.str s,.str n]->Need b ρ s n->Q (.ref t) H')/\(∀ n r,ss=n::r->∀ (d:Addr) (H':Hp),SB [] H H'->H d=none->H' d=some (.xd [("kind",.str n)])->E (.ref EE) (some d) H')
def z7c (K:PySem.W.Frag) (C:Addr):Sp:=fun vs H Q _=>∃ (v:V) (b:Bk) (ρ:Str->Lad) (n:Str) (r:List Str),vs=[v,.str n]/\BkA K C H v b/\b.Ok/\z88 b ρ/\(sortedS (n::r)=true/\(n::r).Nodup/\∀ x,x ∈ n::r ↔ x ∈ b.names/\¬ EndK b x)/\∀ H',SB [] H H'->Q (.bl true) H'
def z69 (K:PySem.W.Frag) (C:Addr):Sp:=fun vs H Q _=>∃ (v:V) (l:Addr) (xs:List V) (b:Bk) (ρ:Str->Lad),vs=[v,.ref l]/\BkA K C H v b/\H l=some (.lst xs)/\KdAll K H [] xs b/\b.Ok/\z88 b ρ/\(∀ n ∈ b.names,EndK b n)/\∀ (t:Addr) (s n:Str) (H':Hp),SB [] H H'->SqT K H' t [.str s,.str n]->Need b ρ s n->Q (.ref t) H'
def top (i:Nat):Stmt:=PySem.Challenge.pw_felltimber_k72_whole_sorts_needed.main.body.getD i (.Pass ⟨0,0,0,0⟩)
abbrev z5t:Stmt:=top 24
abbrev z5b:Stmt:=top 25
abbrev z5o:Stmt:=top 26
abbrev z2l:Stmt:=top 27
abbrev z5d:Stmt:=top 28
abbrev z49:Stmt:=top 29
abbrev z5a:Stmt:=top 30
abbrev z54:Stmt:=top 32
abbrev z3c:Stmt:=top 33
abbrev z5n:Stmt:=top 35
abbrev z3s:Stmt:=top 36
abbrev z47:Stmt:=top 37
abbrev z5k:Stmt:=top 38
abbrev z58:Stmt:=top 40
abbrev z43:Stmt:=top 41
abbrev z4g:Stmt:=top 42
abbrev z4i:Stmt:=top 43
abbrev z3w:Stmt:=top 44
abbrev z3x:Stmt:=top 45
abbrev z5i:Stmt:=top 47
abbrev z3t:Stmt:=top 48
abbrev z5l:Stmt:=top 56
abbrev z5u:Stmt:=top 57
abbrev z2n:Stmt:=top 58
abbrev z3z:Stmt:=top 59
abbrev z4c:Stmt:=top 60
abbrev z42:Stmt:=top 61
abbrev z48:Stmt:=top 63
abbrev z53:Stmt:=top 64
abbrev z3v:Stmt:=top 65
abbrev z4k:Stmt:=top 66
abbrev z5j:Stmt:=top 68
abbrev z40:Stmt:=top 69
abbrev z5y:Stmt:=top 70
abbrev z5r:Stmt:=top 72
abbrev z46:Stmt:=top 73
abbrev z5e:Stmt:=top 74
abbrev z3y:Stmt:=top 75
abbrev z5p:Stmt:=top 76
abbrev z5z:Stmt:=top 77
abbrev z1x:Stmt:=top 80
abbrev z1y:Stmt:=top 81
abbrev s_q6:Stmt:=top 83
abbrev z57:Stmt:=top 84
abbrev s_q7:Stmt:=top 85
abbrev z1o:Stmt:=top 86
abbrev z3r:Stmt:=top 87
abbrev z3m:Stmt:=top 88
abbrev s_q8:Stmt:=top 89
abbrev z56:Stmt:=top 90
abbrev z5x:Stmt:=top 91
abbrev z3n:Stmt:=top 92
abbrev s_q9:Stmt:=top 93
abbrev z5v:Stmt:=top 94
abbrev z5g:Stmt:=top 95
abbrev z3e:Stmt:=top 96
abbrev z3o:Stmt:=top 97
abbrev s_q5:Stmt:=inClass (top 7) 0
abbrev s_q4:Stmt:=inClass (top 13) 0
abbrev s_q0:Stmt:=inClass (top 55) 0
abbrev s_q1:Stmt:=inClass (top 55) 1
abbrev s_q3:Stmt:=inClass (top 55) 2
abbrev s_q2:Stmt:=inClass (top 55) 3
abbrev eC:List Str:=["Endless"]
abbrev eN:List Str:=["NoLadder","NoRest","NoGrove","NoPlace","NoBook","NoKind","NoRule","NoNumber","TooGreat","NoRise","NoFall","Endless","NotEndless","NoWorths","NoDrop","NoReach","TooLong","NoRow","NoName"]
abbrev eK:List Str:=["Endless"]
def z8v (K:PySem.W.Frag) (a:Addr) (ss:List Str):Bool:=match K.lookup a with
 | some o=>o.dict.isNone&&(match o.cls,o.data with
  | .type t,.seq its _=>decide (t="tuple")&&z29 its.toList ss
  | _,_=>false)
 | none=>false
theorem zbf {K:PySem.W.Frag} {a:Addr} {ss:List Str} (h:z8v K a ss=true) (hl:ss.length<=10):(∀ H:Hp,SqT K H a (ss.map V.str))/\∃ o,K.lookup a=some o/\o.cls=.type "tuple"/\o.dict=none:=by
 unfold z8v at h
 split at h
 ·rename_i o ho
  rw [Bool.and_eq_true] at h
  obtain ⟨h0,h⟩:=h
  split at h
  ·rename_i t its n hc hd
   rw [Bool.and_eq_true,decide_eq_true_eq] at h
   obtain ⟨h1,h2⟩:=h
   have hv:=z7u h2
   have szl:=sizeLine_eq
   have hz:(ss.map V.str).length=its.toList.length:=hv.length
   have hz2:its.toList.length=its.size:=by simp
   rw [List.length_map] at hz
   have hc':o.cls=.type "tuple":=by rw [hc,h1]
   exact ⟨fun H=>.inr ⟨o,its,n,ho,hc',hd,by omega,hv⟩,o,ho,hc',by simpa using h0⟩
  ·cases h
 ·cases h
def zf0:He.DefD:=⟨("is_whole",none),"is_whole","is_whole",defArgs z5t,defBody z5t,defScope z5t,[],[]⟩
def zdv:He.DefD:=⟨("is_many",none),"is_many","is_many",defArgs z5b,defBody z5b,defScope z5b,[],[]⟩
def zev:He.DefD:=⟨("is_name",none),"is_name","is_name",defArgs z5o,defBody z5o,defScope z5o,[],[]⟩
def zfk:He.DefD:=⟨("is_rising",none),"is_rising","is_rising",defArgs z2l,defBody z2l,defScope z2l,[],[]⟩
def ze4:He.DefD:=⟨("joined",none),"joined","joined",defArgs z5d,defBody z5d,defScope z5d,[],[]⟩
def zdm:He.DefD:=⟨("many_at",none),"many_at","many_at",defArgs z49,defBody z49,defScope z49,[],[]⟩
def zey:He.DefD:=⟨("run_of",none),"run_of","run_of",defArgs z5a,defBody z5a,defScope z5a,[],[]⟩
def zes:He.DefD:=⟨("tree_at",none),"tree_at","tree_at",defArgs z54,defBody z54,defScope z54,[],[]⟩
def zeb:He.DefD:=⟨("all_places",none),"all_places","all_places",defArgs z3c,defBody z3c,defScope z3c,[],[]⟩
def zeu:He.DefD:=⟨("is_tree",none),"is_tree","is_tree",defArgs z5n,defBody z5n,defScope z5n,[],[]⟩
def zer:He.DefD:=⟨("is_grove",none),"is_grove","is_grove",defArgs z3s,defBody z3s,defScope z3s,[],[]⟩
def zdi:He.DefD:=⟨("are_grove_pairs",none),"are_grove_pairs","are_grove_pairs",defArgs z47,defBody z47,defScope z47,[],[]⟩
def zdz:He.DefD:=⟨("pairs_within",none),"pairs_within","pairs_within",defArgs z5k,defBody z5k,defScope z5k,[],[]⟩
def zfh:He.DefD:=⟨("steps_of",none),"steps_of","steps_of",defArgs z58,defBody z58,defScope z58,[],[]⟩
def zei:He.DefD:=⟨("steps_in",none),"steps_in","steps_in",defArgs z43,defBody z43,defScope z43,[],[]⟩
def zdg:He.DefD:=⟨("leads",none),"leads","leads",defArgs z4g,defBody z4g,defScope z4g,[],[]⟩
def zfi:He.DefD:=⟨("ending_kinds",none),"ending_kinds","ending_kinds",defArgs z4i,defBody z4i,defScope z4i,[],[]⟩
def zet:He.DefD:=⟨("lead_into",none),"lead_into","lead_into",defArgs z3w,defBody z3w,defScope z3w,[],[]⟩
def zds:He.DefD:=⟨("endless_kinds",none),"endless_kinds","endless_kinds",defArgs z3x,defBody z3x,defScope z3x,[],[]⟩
def zdl:He.DefD:=⟨("number",none),"number","number",defArgs z5i,defBody z5i,defScope z5i,[],[]⟩
def zeh:He.DefD:=⟨("is_less",none),"is_less","is_less",defArgs z3t,defBody z3t,defScope z3t,[],[]⟩
def zdw:He.DefD:=⟨("rules_from_nought",none),"rules_from_nought","rules_from_nought",defArgs z5l,defBody z5l,defScope z5l,[],[]⟩
def zdn:He.DefD:=⟨("check_kind",none),"check_kind","check_kind",defArgs z5u,defBody z5u,defScope z5u,[],[]⟩
def zec:He.DefD:=⟨("are_kinds",none),"are_kinds","are_kinds",defArgs z2n,defBody z2n,defScope z2n,[],[]⟩
def ze5:He.DefD:=⟨("is_kind",none),"is_kind","is_kind",defArgs z3z,defBody z3z,defScope z3z,[],[]⟩
def zeo:He.DefD:=⟨("is_rule",none),"is_rule","is_rule",defArgs z4c,defBody z4c,defScope z4c,[],[]⟩
def ze2:He.DefD:=⟨("is_rule_of",none),"is_rule_of","is_rule_of",defArgs z42,defBody z42,defScope z42,[],[]⟩
def zfe:He.DefD:=⟨("behind",none),"behind","behind",defArgs z48,defBody z48,defScope z48,[],[]⟩
def zdh:He.DefD:=⟨("both",none),"both","both",defArgs z53,defBody z53,defScope z53,[],[]⟩
def zf9:He.DefD:=⟨("all_together",none),"all_together","all_together",defArgs z3v,defBody z3v,defScope z3v,[],[]⟩
def ze6:He.DefD:=⟨("many_of",none),"many_of","many_of",defArgs z4k,defBody z4k,defScope z4k,[],[]⟩
def zeg:He.DefD:=⟨("power",none),"power","power",defArgs z5j,defBody z5j,defScope z5j,[],[]⟩
def zew:He.DefD:=⟨("above",none),"above","above",defArgs z40,defBody z40,defScope z40,[],[]⟩
def zdr:He.DefD:=⟨("spread",none),"spread","spread",defArgs z5y,defBody z5y,defScope z5y,[],[]⟩
def zdo:He.DefD:=⟨("own_rank",none),"own_rank","own_rank",defArgs z5r,defBody z5r,defScope z5r,[],[]⟩
def zfc:He.DefD:=⟨("own_ranks",none),"own_ranks","own_ranks",defArgs z46,defBody z46,defScope z46,[],[]⟩
def zfa:He.DefD:=⟨("climb",none),"climb","climb",defArgs z5e,defBody z5e,defScope z5e,[],[]⟩
def zdf:He.DefD:=⟨("reckoned",none),"reckoned","reckoned",defArgs z3y,defBody z3y,defScope z3y,[],[]⟩
def zfd:He.DefD:=⟨("reckoned_tree",none),"reckoned_tree","reckoned_tree",defArgs z5p,defBody z5p,defScope z5p,[],[]⟩
def zf4:He.DefD:=⟨("laden",none),"laden","laden",defArgs z5z,defBody z5z,defScope z5z,[],[]⟩
def zf2:He.DefD:=⟨("sort_of",none),"sort_of","sort_of",defArgs z1x,defBody z1x,defScope z1x,[],[]⟩
def zez:He.DefD:=⟨("sort_needed",none),"sort_needed","sort_needed",defArgs z1y,defBody z1y,defScope z1y,[],[]⟩
def d_q6:He.DefD:=⟨("_law_at",none),"_law_at","_law_at",defArgs s_q6,defBody s_q6,defScope s_q6,[],[]⟩
def zf3:He.DefD:=⟨("_law_purse",none),"_law_purse","_law_purse",defArgs z57,defBody z57,defScope z57,[],[]⟩
def d_q7:He.DefD:=⟨("_law_draw",none),"_law_draw","_law_draw",defArgs s_q7,defBody s_q7,defScope s_q7,[],[]⟩
def zel:He.DefD:=⟨("_law_names",none),"_law_names","_law_names",defArgs z1o,defBody z1o,defScope z1o,[],[]⟩
def zef:He.DefD:=⟨("_law_grove",none),"_law_grove","_law_grove",defArgs z3r,defBody z3r,defScope z3r,[],[]⟩
def zeq:He.DefD:=⟨("_law_planted",none),"_law_planted","_law_planted",defArgs z3m,defBody z3m,defScope z3m,[],[]⟩
def d_q8:He.DefD:=⟨("_law_drawn",none),"_law_drawn","_law_drawn",defArgs s_q8,defBody s_q8,defScope s_q8,[],[]⟩
def zff:He.DefD:=⟨("_law_kinds",none),"_law_kinds","_law_kinds",defArgs z56,defBody z56,defScope z56,[],[]⟩
def zep:He.DefD:=⟨("_law_stands",none),"_law_stands","_law_stands",defArgs z5x,defBody z5x,defScope z5x,[],[]⟩
def zf7:He.DefD:=⟨("_law_reached",none),"_law_reached","_law_reached",defArgs z3n,defBody z3n,defScope z3n,[],[]⟩
def d_q9:He.DefD:=⟨("_law_endless",none),"_law_endless","_law_endless",defArgs s_q9,defBody s_q9,defScope s_q9,[],[]⟩
def ze3:He.DefD:=⟨("_law_word",none),"_law_word","_law_word",defArgs z5v,defBody z5v,defScope z5v,[],[]⟩
def ze0:He.DefD:=⟨("_law_refused",none),"_law_refused","_law_refused",defArgs z5g,defBody z5g,defScope z5g,[],[]⟩
def ze9:He.DefD:=⟨("_law_needed",none),"_law_needed","_law_needed",defArgs z3e,defBody z3e,defScope z3e,[],[]⟩
def zdt:He.DefD:=⟨("law",none),"law","law",defArgs z3o,defBody z3o,defScope z3o,[],[]⟩
def d_q5:He.DefD:=⟨("NoKind",some "__init__"),"__init__","NoKind.__init__",defArgs s_q5,defBody s_q5,defScope s_q5,[],[]⟩
def d_q4:He.DefD:=⟨("Endless",some "__init__"),"__init__","Endless.__init__",defArgs s_q4,defBody s_q4,defScope s_q4,[],[]⟩
def d_q0:He.DefD:=⟨("Book",some "__init__"),"__init__","Book.__init__",defArgs s_q0,defBody s_q0,defScope s_q0,[],[]⟩
def d_q1:He.DefD:=⟨("Book",some "names"),"names","Book.names",defArgs s_q1,defBody s_q1,defScope s_q1,[],[]⟩
def d_q3:He.DefD:=⟨("Book",some "spreads"),"spreads","Book.spreads",defArgs s_q3,defBody s_q3,defScope s_q3,[],[]⟩
def d_q2:He.DefD:=⟨("Book",some "rules"),"rules","Book.rules",defArgs s_q2,defBody s_q2,defScope s_q2,[],[]⟩
def fn:List He.DefD:=[zf0,zdv,zev,zfk,ze4,zdm,zey,zes,zeb,zeu,zer,zdi,zdz,zfh,zei,zdg,zfi,zet,zds,zdl,zeh,zdw,zdn,zec,ze5,zeo,ze2,zfe,zdh,zf9,ze6,zeg,zew,zdr,zdo,zfc,zfa,zdf,zfd,zf4,zf2,zez,d_q6,zf3,d_q7,zel,zef,zeq,d_q8,zff,zep,zf7,d_q9,ze3,ze0,ze9,zdt,d_q5,d_q4,d_q0,d_q1,d_q3,d_q2]
def fa1:List He.Fa:=[.glo "is_whole",.glo "is_many",.glo "is_name",.glo "is_rising",.glo "joined",.glo "many_at",.glo "run_of",.glo "tree_at",.glo "all_places",.glo "is_tree",.glo "is_grove",.glo "are_grove_pairs",.glo "pairs_within",.glo "steps_of",.glo "steps_in",.glo "leads",.glo "ending_kinds",.glo "lead_into",.glo "endless_kinds",.glo "number",.glo "is_less",.glo "rules_from_nought",.glo "check_kind",.glo "are_kinds",.glo "is_kind",.glo "is_rule",.glo "is_rule_of",.glo "behind",.glo "both",.glo "all_together",.glo "many_of",.glo "power",.glo "above",.glo "spread",.glo "own_rank",.glo "own_ranks",.glo "climb",.glo "reckoned",.glo "reckoned_tree",.glo "laden",.glo "sort_of",.glo "sort_needed",.glo "_law_at",.glo "_law_purse",.glo "_law_draw",.glo "_law_names",.glo "_law_grove",.glo "_law_planted",.glo "_law_drawn",.glo "_law_kinds",.glo "_law_stands",.glo "_law_reached",.glo "_law_endless",.glo "_law_word",.glo "_law_refused",.glo "_law_needed",.glo "law",.free "len",.free "isinstance",.free "int",.free "bool"]
def fa2:List He.Fa:=[.free "str",.free "tuple",.free "list",.free "all",.free "zip",.free "sum",.free "max",.free "range",.free "enumerate",.free "abs",.free "sorted",.free "min",.free "reversed",.free "any",.free "set",.free "dict",.free "repr",.glo "FellError",.free "ValueError",.glo "NoLadder",.glo "NoRest",.glo "NoGrove",.glo "NoPlace",.glo "NoBook",.glo "NoKind",.glo "NoRule",.glo "NoNumber",.glo "TooGreat",.glo "NoRise",.glo "NoFall",.glo "Endless",.glo "NotEndless",.glo "NoWorths",.glo "NoDrop",.glo "NoReach",.glo "TooLong",.glo "NoRow",.glo "NoName",.noat "Endless" "kind",.str "LETTERS" "abcdefghijklmnopqrstuvwxyz",.int "LONGEST_NAME" (8),.int "MOST_KINDS" (8),.int "MOST_RULES" (4),.int "MOST_RULE_PARTS" (4),.int "MOST_MANY" (1000000000),.glo "NO_GROVES",.glo "SORTS",.exc "NoBook",.exc "NoPlace",.meth "NoKind" "__init__",.noat "NoKind" "kind",.meth "Endless" "__init__",.glo "Book",.cls "Book",.noat "Book" "spread_by_name",.noat "Book" "rows_by_name",.mkr "Book",.meth "Book" "names",.meth "Book" "spreads",.meth "Book" "rules"]
def fa:List He.Fa:=fa1++fa2
def exOk (K:PySem.W.Frag):Bool:=zam K (He.ga K "NoKind")&&(zam K (He.ga K "Endless")&&(no2B K (He.ga K "NO_GROVES")&&(z8v K (He.ga K "SORTS") ["number","pair","power","tower"]&&(ermB K (He.ga K) eC eN))))
abbrev R:PySem.W.OpenRow:=PySem.W.OpenLaw.row PySem.Challenge.rw_felltimber_k72_whole_sorts_needed
abbrev hk:PySem.W.Hook:=zfj 6 fa fn exOk
def ob (s:PySem.W.SharedT):AlE:=obsE 6 fa fn exOk (HandSHeadRun.getT s)
theorem ob_eq (s:PySem.W.SharedT):ob s=hk.obs s.abs:=zfz (HandSHeadRun.getT_eq s)
def loose:List PySem.Str:=(["FellError","NoLadder","NoRest","NoGrove","NoPlace","NoBook","NoKind","NoRule","NoNumber","TooGreat","NoRise","NoFall"]:List PySem.Str)++(["Endless","NotEndless","NoWorths","NoDrop","NoReach","TooLong","NoRow","NoName","is_whole","is_many","is_name","is_rising"]:List PySem.Str)++(["joined","many_at","run_of","tree_at","all_places","is_tree","is_grove","are_grove_pairs","pairs_within","steps_of","steps_in","leads"]:List PySem.Str)++(["ending_kinds","lead_into","endless_kinds","number","is_less","Book","rules_from_nought","check_kind","are_kinds","is_kind","is_rule","is_rule_of"]:List PySem.Str)++(["behind","both","all_together","many_of","power","above","spread","own_rank","own_ranks","climb","reckoned","reckoned_tree"]:List PySem.Str)++(["laden","sort_of","sort_needed","_law_at","_law_purse","_law_draw","_law_names","_law_grove","_law_planted","_law_drawn","_law_kinds","_law_stands"]:List PySem.Str)++(["_law_reached","_law_endless","_law_word","_law_refused","_law_needed","LETTERS","LONGEST_NAME","MOST_KINDS","MOST_MANY","MOST_RULES","MOST_RULE_PARTS","NO_GROVES"]:List PySem.Str)++(["SORTS"]:List PySem.Str)
def KTr (s:PySem.W.SharedT):PySem.W.Frag:=He.frG (HandSHeadRun.getT s) (He.asD (HandSHeadRun.getT s) 6)
theorem run1 (w:World) (os:PySem.OsState):(HandSHeadRun.endF (HandSHeadRun.stepQ (HandSHeadRun.denQ HandSHeadRun.tabQ) R.prog w) 9000 R.prog w os).map (fun s=>HandSHeadRun.looksF R.prog (PySem.W.boot_heap w.params) s.abs)=some true:=by
 kernel_rfl
theorem run2 (w:World) (os:PySem.OsState):(HandSHeadRun.endF (HandSHeadRun.stepQ (HandSHeadRun.denQ HandSHeadRun.tabQ) R.prog w) 9000 R.prog w os).map (fun s=>HandSHeadRun.seenQ (PySem.W.view R.prog [97]) loose (importedModules R.prog.main.body) (fun s=>xlAt (PySem.W.view R.prog [97]) [] s&&recOk R.toRowW.records s) s.abs)=some (openGood (PySem.W.view R.prog [97]) loose):=by
 kernel_rfl
theorem run3 (w:World) (os:PySem.OsState):(HandSHeadRun.endF (HandSHeadRun.stepQ (HandSHeadRun.denQ HandSHeadRun.tabQ) R.prog w) 9000 R.prog w os).map (fun s=>fa1.all fun f=>f.ok (KTr s))=some true:=by
 kernel_rfl
theorem run4 (w:World) (os:PySem.OsState):(HandSHeadRun.endF (HandSHeadRun.stepQ (HandSHeadRun.denQ HandSHeadRun.tabQ) R.prog w) 9000 R.prog w os).map (fun s=>fa2.all fun f=>f.ok (KTr s))=some true:=by
 kernel_rfl
theorem run5 (w:World) (os:PySem.OsState):(HandSHeadRun.endF (HandSHeadRun.stepQ (HandSHeadRun.denQ HandSHeadRun.tabQ) R.prog w) 9000 R.prog w os).map (fun s=>fn.all fun d=>d.ok (KTr s))=some true:=by
 kernel_rfl
theorem run6 (w:World) (os:PySem.OsState):(HandSHeadRun.endF (HandSHeadRun.stepQ (HandSHeadRun.denQ HandSHeadRun.tabQ) R.prog w) 9000 R.prog w os).map (fun s=>fn.map fun d=>He.fnW (KTr s) d.at_)=some (fn.map He.DefD.val):=by
 kernel_rfl
theorem run7 (w:World) (os:PySem.OsState):(HandSHeadRun.endF (HandSHeadRun.stepQ (HandSHeadRun.denQ HandSHeadRun.tabQ) R.prog w) 9000 R.prog w os).map (fun s=>exOk (KTr s))=some true:=by
 kernel_rfl
theorem map3 {σ α β γ:Type} {o:Option σ} {A:σ->α} {B:σ->β} {C:σ->γ} {a:α} {b:β} {c:γ} (h1:o.map A=some a) (h2:o.map B=some b) (h3:o.map C=some c):o.map (fun s=>(A s,B s,C s))=some (a,b,c):=by
 cases o with
 | none=>cases h1
 | some s=>exact congrArg some (Prod.ext (Option.some.inj h1) (Prod.ext (Option.some.inj h2) (Option.some.inj h3)))
theorem mapE {σ:Type} {o:Option σ} {f1 f2:List He.Fa} {gn:List He.DefD} {ex:PySem.W.Frag->Bool} (K:σ->PySem.W.Frag) (h1:o.map (fun s=>f1.all fun f=>f.ok (K s))=some true) (h2:o.map (fun s=>f2.all fun f=>f.ok (K s))=some true) (h3:o.map (fun s=>gn.all fun d=>d.ok (K s))=some true) (h4:o.map (fun s=>gn.map fun d=>He.fnW (K s) d.at_)=some (gn.map He.DefD.val)) (h5:o.map (fun s=>ex (K s))=some true):o.map (fun s=>(He.obsD (f1++f2) gn (K s),ex (K s)))=some (He.valD gn,true):=by
 cases o with
 | none=>cases h1
 | some s =>
  have e1:(f1.all fun f=>f.ok (K s))=true:=Option.some.inj h1
  have e2:(f2.all fun f=>f.ok (K s))=true:=Option.some.inj h2
  have e3:(gn.all fun d=>d.ok (K s))=true:=Option.some.inj h3
  have e4:(gn.map fun d=>He.fnW (K s) d.at_)=gn.map He.DefD.val:=Option.some.inj h4
  have e5:ex (K s)=true:=Option.some.inj h5
  refine congrArg some (Prod.ext (Prod.ext ?_ e4) e5)
  show (((f1++f2).all fun f=>f.ok (K s))&&gn.all fun d=>d.ok (K s))=true
  rw [List.all_append,e1,e2,e3]; rfl
theorem run (w:World):HandSHeadRun.RunEq R (PySem.W.view R.prog [97]) hk ob 9000 loose w:=by
 intro os
 exact map3 (run1 w os) (run2 w os) (mapE KTr (run3 w os) (run4 w os) (run5 w os) (run6 w os) (run7 w os))
section
variable {P:Program} {w:World} {K:PySem.W.Frag} {mg:Str->Option Value} {base:Heap} {f:Addr} {fd:FuncData} {ps:List Addr}
theorem zhq:FnScope ["thing"] ["thing"] (defScope z5t):=⟨rfl,rfl,rfl,by decide +kernel,rfl,by decide +kernel,by decide +kernel⟩
theorem zib (B:BI mg) (F:Fun K "is_whole" "is_whole" z5t f fd):FnOk P w K mg base CX0 1 f fd ["thing"] (z5q K):=by
 refine F.ok zhq (fun vs H Q E h=>?_) (fun cdv A outer s H vs Q E hr h=>?_)
 ·obtain ⟨v,n,b1,b2,rfl,_⟩:=h
  rfl
 obtain ⟨v,n,b1,b2,rfl,ty,k1,k2,q⟩:=h
 refine ⟨_,pss_one (ps_ret (pe_and (z0z B (pv 0) B.int boot_int) (pe_one (pe_not (z0z B (pv 0) B.bool boot_bool))))),?_⟩
 refine ⟨_,rfl,_,_,n,b1,rfl,ty,k1,b1,rfl,?_⟩
 cases b1 with
 | false=>exact iteF q
 | true =>
  refine iteT ⟨_,rfl,_,_,n,b2,rfl,ty,k2 rfl,b2,rfl,?_⟩
  exact q
end
section
variable {P:Program} {w:World} {K:PySem.W.Frag} {mg:Str->Option Value} {base:Heap} {f:Addr} {fd:FuncData} {ps:List Addr}
theorem zgx:FnScope ["thing"] ["thing"] (defScope z5b):=⟨rfl,rfl,rfl,by decide +kernel,rfl,by decide +kernel,by decide +kernel⟩
theorem ziu {ps:List Addr} (B:BI mg) (G:Got P w K mg base "is_whole" ["thing"] 1 (z5q K)) (F:Fun K "is_many" "is_many" z5b f fd):FnOk P w K mg base CX0 2 f fd ["thing"] (z6z K ps):=by
 refine F.ok zgx (fun vs H Q E h=>?_) (fun cdv A outer s H vs Q E hr h=>?_)
 ·obtain ⟨v,d,rfl,_⟩:=h
  rfl
 obtain ⟨v,d,rfl,th,q⟩:=h
 refine ⟨_,pss_one (ps_ret (pe_and (z00 G hr rfl (pa_cons (pv 0) pa_nil)) (pe_one (pe_cmpR op_ge (pv 0) pe_int (nomark _))))),?_⟩
 obtain ⟨n,b1,b2,ty,k1,k2,y1,y2⟩:=th.whole
 refine ⟨_,rfl,v,n,b1,b2,rfl,ty,k1,k2,b1&&!b2,rfl,?_⟩
 cases e:(b1&&!b2) with
 | false =>
  refine iteF ?_
  rw [y2 e] at q
  exact q
 | true =>
  obtain ⟨i,rfl,rfl⟩:=y1 e
  exact iteT ⟨_,rfl,_,_,rfl,rfl,q⟩
end
section
variable {P:Program} {w:World} {K:PySem.W.Frag} {mg:Str->Option Value} {base:Heap} {f:Addr} {fd:FuncData}
theorem zij:FnScope ["thing"] ["thing"] (defScope z5o):=⟨rfl,rfl,rfl,by decide +kernel,rfl,by decide +kernel,by decide +kernel⟩
theorem zhm (B:BI mg) (L:∃ t,mg "LETTERS"=some (.str abc t)) (N:∃ t,mg "LONGEST_NAME"=some (.int 8 t)) (G:Got P w K mg base "run_of" ["text","at","signs"] 1 (z74 K)) (F:Fun K "is_name" "is_name" z5o f fd):FnOk P w K mg base CX0 2 f fd ["thing"] (z72 K):=by
 refine F.ok zij (fun vs H Q E h=>?_) (fun cdv A outer s H vs Q E hr h=>?_)
 ·obtain ⟨v,d,rfl,_⟩:=h
  rfl
 obtain ⟨v,d,rfl,th,q⟩:=h
 obtain ⟨tl,hL⟩:=L
 obtain ⟨tn,hN⟩:=N
 refine ⟨_,pss_cons (ps_if (PW.pt (pw_or (pt_not (pt_val (z0z B (pv 0) B.str boot_str))) (pw_or1 (pt_not (pt_chain op_le op_le pe_int (pe_callB call_len_str rfl B.len PySem.boot_len (pa_cons (pv 0) pa_nil)) (pe_glob (v:=.int 8) rfl hN ⟨_,rfl⟩)))))) (pss_one (ps_ret pe_bl)) pss_nil)
  (pss_one (ps_ret (pe_cmpR op_eq (z00 G hr rfl (pa_cons (pv 0) (pa_cons pe_int (pa_cons (pe_glob (v:=.str abc) rfl hL ⟨_,rfl⟩) pa_nil)))) (pv 0) (nomark _)))),?_⟩
 obtain ⟨n1,b,ty,kb,y1,y2⟩:=th.txt
 refine ⟨_,rfl,_,_,n1,b,rfl,ty,kb,b,rfl,?_⟩
 cases b with
 | false =>
  refine iteT (iteT ?_)
  have e:z15 d=false:=by
   cases d with
   | str z=>exact absurd rfl (y2 rfl z)
   | _=>simp [z15]
  have:=q H SB.refl
  rw [e] at this
  exact this
 | true =>
 refine iteF ?_
 obtain ⟨z,rfl,rfl,hz⟩:=y1 rfl
 have hzl:z.length<=sizeLine:=by have:=sizeLine_eq; omega
 refine ⟨_,rfl,z,rfl,hzl,_,_,rfl,rfl,_,rfl,?_⟩
 by_cases h1:1<=z.length
 ·rw [show decide ((1:Int)<=(z.length:Int))=true from decide_eq_true (by omega)]
  refine iteT ⟨_,_,rfl,rfl,_,rfl,?_⟩
  by_cases h8:z.length<=8
  ·rw [show decide ((z.length:Int)<=8)=true from decide_eq_true (by omega)]
   refine iteF ?_
   refine ⟨_,rfl,z,abc,0,rfl,by omega,Nat.zero_le _,fun e _ he hin hout=>?_⟩
   refine ⟨_,rfl,rfl,?_⟩
   have:=q H SB.refl
   rw [<- zc7 h1 h8 he hin hout] at this
   exact this
  ·rw [show decide ((z.length:Int)<=8)=false from decide_eq_false (by omega)]
   have:=q H SB.refl
   rw [z8r fun h=>h8 h.2] at this
   exact iteT this
 ·rw [show decide ((1:Int)<=(z.length:Int))=false from decide_eq_false (by omega)]
  have:=q H SB.refl
  rw [z8r fun h=>h1 h.1] at this
  exact iteF ⟨_,rfl,iteT this⟩
end
section
variable {P:Program} {w:World} {K:PySem.W.Frag} {mg:Str->Option Value} {base:Heap} {f:Addr} {fd:FuncData} {ps:List Addr}
theorem sc_q36:FnScope z8h ["things"] (defScope z2l):=⟨rfl,rfl,rfl,by decide +kernel,rfl,by decide +kernel,by decide +kernel⟩
theorem zhk (B:BI mg) (F:Fun K "is_rising" "is_rising" z2l f fd):FnOk P w K mg base CX0 1 f fd ["things"] (z6b K):=by
 refine F.ok sc_q36 (fun vs H Q E h=>?_) (fun cdv A outer s H vs Q E hr h=>?_)
 ·obtain ⟨v,n,b1,rfl,_⟩:=h
  rfl
 obtain ⟨a,xs,ds,rfl,hS,hDp,hok,hal,hz,q⟩:=h
 have hu:A.units+200 < cLine:=by have:=hr.un; show A.units+200 < cLine; have h3:(A.deeper (envOfC "is_rising" (defScope z2l) s.heap.objs.size f cdv)).units=A.units+3:=rfl; omega
 refine ⟨_,pss_one (ps_ret (pe_callB (cr_all rfl) rfl B.all boot_all (pa_cons
  (pe_lc (own:=[("low",1),("high",2)]) (g:=gTup K 2 (gCons (gName 1) (gCons (gName 2) gNil))) (tt:=tYes) (te:=tOp (rLtD K) (tVar 1) (tVar 2)) rfl sc_q36.nd
   (pi_zip rfl B.zip (pa_cons (pv 0) (pa_cons (pe_slice sl_list (pv 0) (po_some pe_int) po_none) pa_nil)))
   (blkOk_by (N:=z8h) (sc:=defScope z2l) (by decide +kernel))
   (fun _ _ _ _ _=>pg_tup rfl (pgs_cons (pg_name (i:=1) sc_q36.nd rfl (.inl rfl)) (pgs_cons (pg_name (i:=2) sc_q36.nd rfl (.inl rfl)) pgs_nil)))
   (fun _ _ _ _ _=>pts_nil)
   (fun _ _ _ _ _=>pe_cmpR (zb6 (by have:=hu; show A.units+3+100 < cLine; omega)) (pv 1) (pv 2) (nomark _))) pa_nil))),?_⟩
 refine ⟨_,rfl,_,rfl,1,rfl,a,xs,rfl,hS,fun p hp=>?_⟩
 rw [cut1]
 have e1:SB [] H (upd H p (.lst (xs.drop 1))):=SB.new hp _
 refine ⟨a,p,xs,xs.drop 1,rfl,e1.sqL nmn hS,SqL.of upd_same,fun D hD=>?_⟩
 have hpD:p ≠ D:=fun z=>by subst z; rw [upd_same] at hD; cases hD
 have dl:ds.length=xs.length:=(DpAll.length hDp).symm
 refine lc_it (walk_zip (n:=min xs.length (xs.drop 1).length) rfl) (fun i H2=>SB [D] (upd H p (.lst (xs.drop 1))) H2/\H2 D=some (.lst (((ltsD ds).take i).map V.bl))) ⟨SB.new hD _,upd_same⟩ (fun i H2 hi h2=>?_) (fun i x H2 H' hi h2 y=>?_) (fun H2 h2=>?_)
 ·obtain ⟨h2,h3⟩:=h2
  have h4:=h2.drop hD
  exact ⟨(e1.trans h4).sqL nmn hS,h4.sqL nmn (SqL.of upd_same)⟩
 ·obtain ⟨h2,h3⟩:=h2
  have h4:=e1.trans (h2.drop hD)
  obtain ⟨T,x1,y1,rfl,hT,rfl,ex,ey⟩:=y
  have ey:(xs.drop 1)[i]?=some y1:=ey
  rw [List.getElem?_drop,Nat.add_comm] at ey
  obtain ⟨d,ed,hd⟩:=DpAll.get hDp ex
  obtain ⟨d',ed',hd'⟩:=DpAll.get (i:=i+1) hDp ey
  have e5:SB [] H (upd H2 T (.tup [x1,y1])):=h4.trans (SB.new hT _)
  have m1:=List.mem_of_getElem? ed
  have m2:=List.mem_of_getElem? ed'
  have hTD:D ≠ T:=fun z=>by subst z; rw [h3] at hT; cases hT
  refine ⟨T,_,rfl,SqT.of upd_same,rfl,_,_,rfl,_,_,rfl,rfl,rfl,?_⟩
  refine ⟨_,rfl,_,rfl,d,d',z0e e5 _ _ (hok d m1).1 hd,z0e e5 _ _ (hok d' m2).1 hd',hal d m1 d' m2,(hok d m1).2.1,(hok d m1).2.2,_,by rw [upd_ne hTD]; exact h3,?_,?_⟩
  ·have:=z2t ds
   rw [List.length_map,List.length_take]
   exact small1000 (by omega)
  ·refine ⟨(h2.trans (SB.new hT _)).trans (SB.set (by rw [upd_ne hTD]; exact h3) (by simp) _),?_⟩
   rw [upd_same,List.take_add_one,z8o ds i d d' ed ed']
   simp
 ·obtain ⟨h2,h3⟩:=h2
  have h4:=e1.trans (h2.drop hD)
  have e6:(ltsD ds).take (min xs.length (xs.drop 1).length)=ltsD ds:=by
   apply List.take_of_length_le
   rw [z2t,List.length_drop]
   omega
  rw [e6] at h3
  exact ⟨D,_,rfl,SqL.of h3,q _ h4⟩
end
section
variable {P:Program} {w:World} {K:PySem.W.Frag} {mg:Str->Option Value} {base:Heap} {f:Addr} {fd:FuncData}
abbrev zj5:List Str:=["pairs","row","thing","many"]
theorem sc_q41:FnScope zj5 ["pairs"] (defScope z5d):=⟨rfl,rfl,rfl,by decide +kernel,rfl,by decide +kernel,by decide +kernel⟩
theorem zbu {γ:Type} [DecidableEq γ] {enc:γ->PyData} (hnl:∀ g,z03 (enc g)=true) (heq:∀ g h,PyData.eqv (enc g) (enc h)=decide (g=h)) (B:BI mg) (F:Fun K "joined" "joined" z5d f fd):FnOk P w K mg base CX0 1 f fd ["pairs"] (z41 K enc):=by
 refine F.ok sc_q41 (fun vs H Q E h=>?_) (fun cdv A outer s H vs Q E hr h=>?_)
 ·obtain ⟨a,xs,bs,rfl,_⟩:=h
  rfl
 obtain ⟨a,xs,bs,rfl,hs,hb,hl,hsh,q⟩:=h
 have hun2:=hunT hr
 refine ⟨_,pss_cons (ps_set (i:=1) sc_q41.nd rfl (.inl rfl) (pe_lst pa_nil))
  (pss_cons (ps_for PassesOwn.never rfl (pi_list (pv 0)) (pg_tup rfl (pgs_cons (pg_name (i:=2) sc_q41.nd rfl (.inl rfl)) (pgs_cons (pg_name (i:=3) sc_q41.nd rfl (.inl rfl)) pgs_nil)))
   (pss_one (ps_if (PW.pt (pw_and (pt_truth (pv 1) (by intro _; rfl)) (pw_and1 (pt_cmpR (op_eqD (by show A.units+3+64 < cLine; omega)) (pe_ix ix_tup (pe_ix ix_list (pv 1) (pe_un un_neg pe_int) (fun _ _=>rfl)) pe_int (fun _ _=>rfl)) (pv 2) (nomark _)))))
    (pss_one (ps_asg (pe_tup (pa_cons (pv 2) (pa_cons (pe_op op_add (pe_ix ix_tup (pe_ix ix_list (pv 1) (pe_un un_neg pe_int) (fun _ _=>rfl)) pe_int (fun _ _=>rfl)) (pv 3)) pa_nil))) (pg_sub (pv 1) (pe_un un_neg pe_int) set_list)))
    (pss_one (ps_expr (pe_bm PySem.F.plainAttrs_list PySem.F.slot_list_append PySem.F.type_list_append mt_append (pv 1) (pa_cons (pe_tup (pa_cons (pv 2) (pa_cons (pv 3) pa_nil))) pa_nil)))))))
  (pss_one (ps_ret (pe_callTy call_tuple_of rfl B.tuple boot_tuple (pa_cons (pv 1) pa_nil))))),?_⟩
 refine ⟨(by show 0<=sizeLine; decide),fun D hD=>?_⟩
 have t0:=SB.new (ps:=[]) hD (.lst [])
 refine ⟨_,rfl,a,rfl,⟨xs,t0.sqL nmn hs⟩,?_⟩
 have xl:=hb.length
 refine for_list (K:=K) (a:=a) (xs:=xs) (fun i σ H2=>SB [D] H H2/\∃ acc o2 o3,σ=[some (.ref a),some (.ref D),o2,o3]/\H2 D=some (.lst acc)/\Bears K H2 (z0j enc) acc (jn (bs.take i))) ⟨SB.new hD _,[],none,none,rfl,upd_same,.nil⟩ (fun i σ H2 hi h2=>(h2.1.drop hD).sqL nmn hs) (fun i x σ H2 hx h2=>?_) (fun σ H2 h2=>?_)
 ·obtain ⟨s2,acc,o2,o3,rfl,hD2,hb2⟩:=h2
  have s2':=s2.drop hD
  obtain ⟨p,ep,hpd⟩:=hb.get hx
  have pm:=List.mem_of_getElem? ep
  obtain ⟨ad,ux,rfl,hsx,hdx⟩:=z9x hpd
  have al:=hb2.length
  have jl:=zbc (bs.take i)
  rw [List.length_take] at jl
  have nl:=z4w hnl
  rw [zg2 bs i p ep]
  have hdx2:=z0e s2' _ _ (hnl _) hdx
  refine ⟨ad,_,rfl,s2'.sqT hsx,rfl,_,_,rfl,_,_,rfl,rfl,?_⟩
  -- the row ahead: none,or a last one
  have app:z04 (jn (bs.take i)) p=jn (bs.take i)++[p]->tDrop (tBM K "list" rAppend (tVar 1) (tCons (tTup (tCons (tVar 2) (tCons (tVar 3) tNil))) tNil)) { nx:=fun σ H2=>SB [D] H H2/\∃ acc o2 o3,σ=[some (.ref a),some (.ref D),o2,o3]/\H2 D=some (.lst acc)/\Bears K H2 (z0j enc) acc (z04 (jn (bs.take i)) p),rt:=Q } [some (.ref a),some (.ref D),some ux,some (.int p.2)] H2:=by
   intro e
   rw [e]
   refine ⟨_,rfl,.inl ⟨rfl,_,SqL.of hD2⟩,_,rfl,_,rfl,(by show 2<=sizeLine; decide),fun t ht=>?_⟩
   have t3:=SB.new (ps:=[D]) ht (.tup [ux,.int p.2])
   have hD3:(upd H2 t (.tup [ux,.int p.2])) D=some (.lst acc):=by rw [upd_ne (ne_of_none hD2 ht)]; exact hD2
   refine ⟨D,acc,_,rfl,rfl,hD3,small1000 (by omega),?_⟩
   have t4:=SB.set (ps:=[D]) hD3 (by simp) (.lst (acc++[.ref t]))
   exact ⟨(s2.trans t3).trans t4,_,_,_,rfl,upd_same,Bears.append ((hb2.sb t3 nl).sb t4 nl) (.cons (z77 (t4.sqT (SqT.of upd_same)) (z0e t4 _ _ (hnl _) (z0e t3 _ _ (hnl _) hdx2))) .nil)⟩
  rcases List.eq_nil_or_concat (jn (bs.take i)) with he | ⟨js,z,he⟩
  ·rw [he] at hb2 app
   cases hb2
   refine ⟨_,rfl,_,.inl ⟨[],SqL.of hD2,rfl⟩,iteF (iteF ?_)⟩
   rw [he]
   exact app rfl
  ·rw [List.concat_eq_append] at he
   rw [he] at hb2 app
   rw [he]
   obtain ⟨us,u,rfl,hus,hu⟩:=hb2.snoc
   obtain ⟨az,uz,rfl,hsz,hdz⟩:=z9x hu
   have zsh:SeqAt.shaped (enc z.1)=true:=by
    obtain ⟨q2,hq2,eq2⟩:=z22 (bs.take i) z (by rw [he]; simp)
    rw [<- eq2]
    exact hsh q2 (List.mem_of_mem_take hq2)
   refine ⟨_,rfl,_,.inl ⟨us++[.ref az],SqL.of hD2,rfl⟩,?_⟩
   have e0:(!(us++[V.ref az]).isEmpty)=true:=by simp
   rw [e0]
   refine iteT ?_
   refine ⟨_,rfl,1,rfl,D,_,_,_,rfl,rfl,SqL.of hD2,z9r,az,_,_,_,rfl,rfl,hsz,atI_nat (j:=0) rfl,_,rfl,enc z.1,enc p.1,hdz,hdx2,zsh,hsh p pm,_,rfl,?_⟩
   rw [heq]
   by_cases hz:z.1=p.1
   ·rw [show decide (z.1=p.1)=true by simp [hz]]
    refine iteT ?_
    refine ⟨_,rfl,_,rfl,1,rfl,D,_,_,_,rfl,rfl,SqL.of hD2,z9r,az,_,_,_,rfl,rfl,hsz,atI_nat (j:=1) rfl,_,rfl,_,_,rfl,rfl,(by show 2<=sizeLine; decide),fun t ht=>?_⟩
    have t3:=SB.new (ps:=[D]) ht (.tup [ux,.int (z.2+p.2)])
    have hD3:(upd H2 t (.tup [ux,.int (z.2+p.2)])) D=some (.lst (us++[.ref az])):=by rw [upd_ne (ne_of_none hD2 ht)]; exact hD2
    refine ⟨_,rfl,1,rfl,D,_,_,us.length,rfl,rfl,hD3,zcv,?_⟩
    rw [zd6]
    have t4:=SB.set (ps:=[D]) hD3 (by simp) (.lst (us++[.ref t]))
    refine ⟨(s2.trans t3).trans t4,_,_,_,rfl,upd_same,?_⟩
    rw [z0c,if_pos hz]
    exact Bears.append ((hus.sb t3 nl).sb t4 nl) (.cons (z77 (t4.sqT (SqT.of upd_same)) (z0e t4 _ _ (hnl _) (z0e t3 _ _ (hnl _) hdx2))) .nil)
   ·rw [show decide (z.1=p.1)=false by simp [hz]]
    refine iteF ?_
    exact app (by rw [z0c,if_neg hz])
 ·obtain ⟨s2,acc,o2,o3,rfl,hD2,hb2⟩:=h2
  rw [xl,List.take_length] at hb2
  refine ⟨_,rfl,D,acc,rfl,.inl ⟨SqL.of hD2,fun t ht=>?_⟩⟩
  have t3:=SB.new (ps:=[]) ht (.tup acc)
  exact q _ _ _ ((s2.drop hD).trans t3) (SqT.of upd_same) (hb2.sb t3 (z4w hnl))
abbrev z8p:List Str:=["pairs","thing","other","many"]
theorem sc_q46:FnScope z8p ["pairs","thing"] (defScope z49):=⟨rfl,rfl,rfl,by decide +kernel,rfl,by decide +kernel,by decide +kernel⟩
theorem zhp (B:BI mg) (F:Fun K "many_at" "many_at" z49 f fd):FnOk P w K mg base CX0 1 f fd ["pairs","thing"] (z6f K):=by
 refine F.ok sc_q46 (fun vs H Q E h=>?_) (fun cdv A outer s H vs Q E hr h=>?_)
 ·obtain ⟨v,u,l,e,rfl,_⟩:=h
  rfl
 obtain ⟨v,u,l,e,rfl,hv,hu,hd,hd2,hp,q⟩:=h
 have hun2:=hunT hr
 refine ⟨_,pss_one (ps_ret (pe_callB (cr_sum rfl) rfl B.sum boot_sum (pa_cons
  (pe_lc (own:=[("other",2),("many",3)]) (g:=gTup K 2 (gCons (gName 2) (gCons (gName 3) gNil))) (tt:=tTest (tOp (rEqD K) (tVar 2) (tVar 1))) (te:=tVar 3) rfl sc_q46.nd (pi_tup (pv 0))
   (blkOk_by (N:=z8p) (sc:=defScope z49) (by decide +kernel))
   (fun _ _ _ _ _=>pg_tup rfl (pgs_cons (pg_name (i:=2) sc_q46.nd rfl (.inl rfl)) (pgs_cons (pg_name (i:=3) sc_q46.nd rfl (.inl rfl)) pgs_nil)))
   (fun _ _ _ _ _=>pts_one (pt_cmpR (op_eqD (by show A.units+3+64 < cLine; omega)) (pv 2) (pv 1) (nomark _)))
   (fun _ _ _ _ _=>pv 3)) pa_nil))),?_⟩
 obtain ⟨a,xs,rfl,hs,hb⟩:=z0n hv
 have bl:=hb.length
 have lp:=l.len_parts
 rw [<- Lad.ps_length] at lp
 refine ⟨_,rfl,a,rfl,⟨xs,hs⟩,fun D hD=>?_⟩
 refine lc_it (walk_tup (xs:=xs)) (fun i H2=>SB [D] H H2/\H2 D=some (.lst ((((l.ps.take i).filter fun p=>decide (p.1=e)).map (·.2)).map V.int))) ⟨SB.new hD _,upd_same⟩ (fun i H2 hi h2=>(h2.1.drop hD).sqT hs) (fun i x H2 H' hi h2 y=>?_) (fun H2 h2=>?_)
 ·obtain ⟨s2,hD2⟩:=h2
  obtain ⟨rfl,ex⟩:=y
  have s2':=s2.drop hD
  obtain ⟨b,eb,hbd⟩:=hb.get ex
  obtain ⟨ad,ux,rfl,hs2,hla⟩:=z10 hbd
  have bd:=l.mem_deep b (List.mem_of_getElem? eb)
  refine ⟨ad,_,rfl,s2'.sqT hs2,rfl,_,_,rfl,_,_,rfl,rfl,rfl,?_⟩
  refine ⟨_,rfl,_,rfl,b.1.enc,e.enc,hla.sb s2',hu.sb s2',Lad.shaped_enc (by omega),Lad.shaped_enc (by omega),_,rfl,?_⟩
  rw [Lad.eqv_enc]
  have fl:=List.length_filter_le (fun p:Lad × Int=>decide (p.1=e)) (l.ps.take i)
  rw [List.length_take] at fl
  by_cases he:b.1=e
  ·rw [show decide (b.1=e)=true by simp [he]]
   refine iteT ?_
   refine ⟨_,rfl,_,hD2,?_,?_⟩
   ·rw [List.length_map,List.length_map]; exact small1000 (by omega)
   ·refine ⟨s2.trans (SB.set hD2 (by simp) _),?_⟩
    rw [upd_same,List.take_add_one,eb,List.filter_append]
    simp [he]
  ·rw [show decide (b.1=e)=false by simp [he]]
   refine iteF ?_
   refine ⟨s2,?_⟩
   rw [hD2,List.take_add_one,eb,List.filter_append]
   simp [he]
 ·obtain ⟨s2,hD2⟩:=h2
  rw [bl,List.take_length] at hD2
  exact ⟨D,_,rfl,SqL.of hD2,q _ (s2.drop hD)⟩
theorem sc_q56:FnScope ["text","at","signs","end"] ["text","at","signs"] (defScope z5a):=⟨rfl,rfl,rfl,by decide +kernel,rfl,by decide +kernel,by decide +kernel⟩
theorem ziq (B:BI mg) (F:Fun K "run_of" "run_of" z5a f fd):FnOk P w K mg base CX0 1 f fd ["text","at","signs"] (z74 K):=by
 refine F.ok sc_q56 (fun vs H Q E h=>?_) (fun cdv A outer s H vs Q E hr h=>?_)
 ·obtain ⟨z,y,k,rfl,_⟩:=h
  rfl
 obtain ⟨z,y,k,rfl,hz,hk,q⟩:=h
 refine ⟨_,pss_cons (ps_set (i:=3) sc_q56.nd rfl (.inl rfl) (pv 1))
  (pss_cons (ps_while PassesOwn.never (PW.pt (pw_and (pt_cmpR op_lt (pv 3) (pe_callB call_len_str rfl B.len PySem.boot_len (pa_cons (pv 0) pa_nil)) (nomark _)) (pw_and1 (pt_cmpR op_in_sign (pe_ix ix_str (pv 0) (pv 3) (fun _ _=>rfl)) (pv 2) (by rfl)))))
   (pss_one (ps_aug (i:=3) sc_q56.nd rfl (.inl rfl) pe_int ip_add)))
  (pss_one (ps_ret (pe_slice sl_str (pv 0) (po_some (pv 1)) (po_some (pv 3)))))),?_⟩
 have hzl:z.length<=sizeLine:=by have:=sizeLine_eq; omega
 have hl:=z59 z
 refine ⟨_,rfl,?_⟩
 refine ⟨fun mm σ H2=>∃ e:Nat,mm=z.length-e/\H2=H/\σ=[some (.str z),some (.int (k:Int)),some (.str y),some (.int (e:Int))]/\k<=e/\e<=z.length/\(∀ j c,k<=j->j < e->z.cps.toList[j]?=some c->c ∈ y.cps.toList),⟨_,k,rfl,rfl,rfl,Nat.le_refl _,hk,fun j c h1 h2 _=>by omega⟩,fun mm σ H2 h2=>?_⟩
 obtain ⟨e,rfl,rfl,rfl,ke,el,hin⟩:=h2
 refine ⟨_,rfl,_,rfl,z,rfl,hzl,_,_,rfl,rfl,_,rfl,?_⟩
 have fin:(∀ c,z.cps.toList[e]?=some c->c ∉ y.cps.toList)->Q (.str (cutS z (some (k:Int)) (some (e:Int)))) H2:=fun ho=>q e ke el hin ho
 by_cases hlt:e < z.length
 ·rw [show decide ((e:Int) < (z.length:Int))=true from decide_eq_true (by omega)]
  refine iteT ?_
  obtain ⟨c,hc⟩:∃ c,z.cps.toList[e]?=some c:=⟨_,List.getElem?_eq_getElem (by omega)⟩
  refine ⟨_,rfl,_,rfl,z,_,c,rfl,rfl,hzl,z6e hc,_,rfl,c,y,rfl,rfl,_,rfl,?_⟩
  by_cases hm:c ∈ y.cps.toList
  ·rw [decide_eq_true hm]
   refine iteT ?_
   refine ⟨_,fun σ' H' z=>z,?_⟩
   refine ⟨_,rfl,_,_,rfl,rfl,z.length-(e+1),by omega,e+1,rfl,rfl,rfl,by omega,by omega,fun j c' h1 h2 h3=>?_⟩
   rcases Nat.lt_or_ge j e with h | h
   ·exact hin j c' h1 h h3
   ·have:j=e:=by omega
    subst this
    rw [hc] at h3; cases h3; exact hm
  ·rw [decide_eq_false hm]
   refine iteF ?_
   refine ⟨_,rfl,_,rfl,_,rfl,_,rfl,_,rfl,z,rfl,hzl,fin fun c' h'=>?_⟩
   rw [hc] at h'; cases h'; exact hm
 ·rw [show decide ((e:Int) < (z.length:Int))=false from decide_eq_false (by omega)]
  refine iteF (iteF ?_)
  refine ⟨_,rfl,_,rfl,_,rfl,_,rfl,_,rfl,z,rfl,hzl,fin fun c' h'=>?_⟩
  have:=(List.getElem?_eq_some_iff.mp h').1
  omega
abbrev zjn:List Str:=["grove","place","tree","row","at"]
theorem sc_q62:FnScope zjn ["grove","place"] (defScope z54):=⟨rfl,rfl,rfl,by decide +kernel,rfl,by decide +kernel,by decide +kernel⟩
theorem zh9 {C:Addr} (B:BI mg) (O:Own K mg "NoPlace" C) (GW:Got P w K mg base "is_whole" ["thing"] 1 (z5q K)) (F:Fun K "tree_at" "tree_at" z54 f fd):FnOk P w K mg base (L2.CX P w) 2 f fd ["grove","place"] (z3f K C):=by
 refine F.okX sc_q62 (fun vs H Q E h=>?_) (fun cdv A outer s H vs Q E hr h=>?_)
 ·obtain ⟨v,g,a,xs,os,rfl,_⟩:=h
  rfl
 obtain ⟨v,g,a,xs,os,rfl,hv,hs,hw,q,qE⟩:=h
 refine ⟨_,pss_cons (ps_if (pt_not (pt_truth (pv 1) (by intro _; rfl))) (pss_one (ps_raise rfl (takes_of rfl rfl rfl rfl) (pmk_own PySem.F.excBase_ValueError O.q O.gC O.k (raises_own O.s O.t) rfl))) pss_nil)
  (pss_cons (ps_set (i:=2) sc_q62.nd rfl (.inl rfl) (pe_tup pa_nil))
  (pss_cons (ps_set (i:=3) sc_q62.nd rfl (.inl rfl) (pv 0))
  (pss_cons (ps_for (passes_of rfl) rfl (pi_tup (pv 1)) (pg_name (i:=4) sc_q62.nd rfl (.inl rfl))
   (pss_cons (ps_if (PW.pt (pw_or (pt_not (pt_val (z00 GW hr rfl (pa_cons (pv 4) pa_nil)))) (pw_or1 (pt_not (pt_chain op_le op_lt pe_int (pv 4) (pe_callB call_len_seq rfl B.len PySem.boot_len (pa_cons (pv 3) pa_nil)))))))
    (pss_one (ps_raise rfl (takes_of rfl rfl rfl rfl) (pmk_own PySem.F.excBase_ValueError O.q O.gC O.k (raises_own O.s O.t) rfl))) pss_nil)
   (pss_cons (ps_set (i:=2) sc_q62.nd rfl (.inl rfl) (pe_ix ix_tup (pe_ix ix_tup (pv 3) (pv 4) (fun _ _=>rfl)) pe_int (fun _ _=>rfl)))
   (pss_one (ps_set (i:=3) sc_q62.nd rfl (.inl rfl) (pe_ix ix_tup (pv 2) pe_int (fun _ _=>rfl)))))))
  (pss_one (ps_ret (pv 2)))))),?_⟩
 have wl:=hw.length
 by_cases hnil:os=[]
 ·have x0:xs=[]:=by rw [hnil] at wl; exact List.length_eq_zero_iff.mp wl
  exact ⟨_,rfl,false,.inr (.inl ⟨xs,hs,by rw [x0]; rfl⟩),iteT (qE (.inl hnil) _ SB.refl)⟩
 have x1:xs ≠ []:=fun z=>hnil (by rw [z] at wl; exact List.length_eq_zero_iff.mp wl.symm)
 refine ⟨_,rfl,true,.inr (.inl ⟨xs,hs,by cases xs with | nil=>exact absurd rfl x1 | cons _ _=>rfl⟩),iteF ?_⟩
 refine ⟨(by show 0<=sizeLine; decide),fun e0 he0=>?_⟩
 have t0:=SB.new (ps:=[]) he0 (.tup [])
 have hv0:=hv.sb t0
 have hs0:=t0.sqT hs
 have hw':Whs K (upd H e0 (.tup [])) xs os:=Whs.sb t0 hw
 generalize hH0:upd H e0 (.tup [])=H0 at t0 hv0 hs0 hw'
 refine ⟨_,rfl,_,rfl,a,rfl,⟨xs,hs0⟩,?_⟩
 refine for_tup (K:=K) (a:=a) (xs:=xs) (fun i σ H2=>H2=H0/\∃ (tv rv:V) (t:Tr) (o4:Option V),σ=[some v,some (.ref a),some tv,some rv,o4]/\lk ("",g) (os.take i)=some t/\GA K H0 rv t.2/\(i=0\/Dp K H0 tv (Gr.tEnc t)))
  ⟨rfl,_,_,("",g),none,rfl,rfl,hv0,.inl rfl⟩ (fun i σ H2 hi h2=>by rw [h2.1]; exact hs0) (fun i x σ H2 hx h2=>?_) (fun σ H2 h2=>?_)
 ·obtain ⟨rfl,tv,rv,t,o4,rfl,hlk,hrv,_⟩:=h2
  obtain ⟨o,eo,hwx⟩:=hw'.get hx
  have bad:stp t.2 o=none->E (.ref C) none H2:=fun z=>qE (.inr (zfu hlk eo z)) _ t0
  rcases hwx with ⟨n,rfl,rfl⟩ | ⟨rfl,n,b1,b2,ty,k1,k2,k3⟩
  ·refine ⟨_,rfl,_,"int",true,false,rfl,.base (.int n),by decide +kernel,fun _=>by decide +kernel,true,rfl,iteF ?_⟩
   obtain ⟨c,ys,rfl,hsc,hbc⟩:=z1m hrv
   have yl:=hbc.length
   refine ⟨_,rfl,_,_,rfl,rfl,_,rfl,?_⟩
   by_cases h0:0<=n
   ·rw [decide_eq_true h0]
    refine iteT ⟨_,rfl,c,ys,rfl,.inr hsc,_,_,rfl,rfl,_,rfl,?_⟩
    obtain ⟨m,rfl⟩:∃ m:Nat,n=(m:Int):=⟨n.toNat,by omega⟩
    by_cases h1:m < ys.length
    ·rw [show decide ((m:Int) < (ys.length:Nat))=true from decide_eq_true (by omega)]
     refine iteF ?_
     obtain ⟨y,hy⟩:∃ y,ys[m]?=some y:=⟨_,List.getElem?_eq_getElem h1⟩
     obtain ⟨p,ep,hpd⟩:=hbc.get hy
     obtain ⟨ad,bd,ux,rfl,hsx,hst,hdx,hdt⟩:=z0x hpd
     refine ⟨_,rfl,_,rfl,c,ys,_,_,rfl,rfl,hsc,atI_nat hy,ad,_,_,_,rfl,rfl,hsx,atI_nat (j:=0) rfl,?_⟩
     refine ⟨_,rfl,bd,_,_,_,rfl,rfl,hst,atI_nat (j:=1) rfl,?_⟩
     have es:stp t.2 (some (m:Int))=some p.1:=by
      show (if 0<=(m:Int) then (t.2.ps[(m:Int).toNat]?).map (·.1) else none)=_
      rw [if_pos h0,Int.toNat_natCast,ep]; rfl
     exact ⟨rfl,_,_,p.1,_,rfl,zfx hlk eo es,hdx,.inr hdt⟩
    ·rw [show decide ((m:Int) < (ys.length:Nat))=false from decide_eq_false (by omega)]
     refine iteT (bad ?_)
     show (if 0<=(m:Int) then (t.2.ps[(m:Int).toNat]?).map (·.1) else none)=_
     rw [if_pos h0,Int.toNat_natCast,List.getElem?_eq_none (by omega)]; rfl
   ·rw [decide_eq_false h0]
    refine iteF ⟨_,rfl,iteT (bad ?_)⟩
    show (if 0<=n then (t.2.ps[n.toNat]?).map (·.1) else none)=_
    rw [if_neg h0]
  ·refine ⟨_,rfl,_,n,b1,b2,rfl,ty,k1,k2,_,rfl,?_⟩
   rw [k3]
   exact iteT (iteT (bad rfl))
 ·obtain ⟨rfl,tv,rv,t,o4,rfl,hlk,hrv,h3⟩:=h2
  rw [wl,List.take_length] at hlk
  refine ⟨_,rfl,q t hnil hlk _ _ t0 ?_⟩
  rcases h3 with h3 | h3
  ·exact absurd (List.length_eq_zero_iff.mp h3) x1
  ·exact h3
abbrev zdk:List Str:=["grove","found","at","pair","place"]
theorem sc_q21:FnScope zdk ["grove"] (defScope z3c):=⟨rfl,rfl,rfl,by decide +kernel,rfl,by decide +kernel,by decide +kernel⟩
theorem zcr {ps:List Str} {k:Nat}:FnOk P w K mg base CX0 k f fd ps (z2w K 0):=z16 fun vs H Q E ⟨v,g,_,_,h,_⟩=>by omega
theorem zia {n:Nat} (B:BI mg) (G_q21:Got P w K mg base "all_places" ["grove"] (n) (z2w K n)) (F:Fun K "all_places" "all_places" z3c f fd):FnOk P w K mg base CX0 (n+1) f fd ["grove"] (z2w K (n+1)):=by
 refine F.ok sc_q21 (fun vs H Q E h=>?_) (fun cdv A outer s H vs Q E hr h=>?_)
 ·obtain ⟨v,g,rfl,_⟩:=h
  rfl
 obtain ⟨v,g,rfl,hv,hd,hd100,hp,q⟩:=h
 have hun2:=hunT hr
 refine ⟨_,pss_cons (ps_set (i:=1) sc_q21.nd rfl (.inl rfl) (pe_lst pa_nil))
  (pss_cons (ps_for PassesOwn.never rfl (zcy rfl B.enumerate (pv 0)) (pg_tup rfl (pgs_cons (pg_name (i:=2) sc_q21.nd rfl (.inr rfl)) (pgs_cons (pg_name (i:=3) sc_q21.nd rfl (.inl rfl)) pgs_nil)))
   (pss_cons (ps_expr (pe_bm PySem.F.plainAttrs_list PySem.F.slot_list_append PySem.F.type_list_append mt_append (pv 1) (pa_cons (pe_tup (pa_cons (pv 2) pa_nil)) pa_nil)))
  (pss_one (ps_expr (pe_bm PySem.F.plainAttrs_list PySem.F.slot_list_extend PySem.F.type_list_extend mt_extend (pv 1) (pa_cons (pe_lc (own:=[("place",4)]) (g:=(gName 4)) (tt:=tYes) (te:=(tOp (zde K) (tTup (tCons (tVar 2) tNil)) (tVar 4))) rfl sc_q21.nd (pi_list (z00 G_q21 (hr.mono (by omega)) rfl (pa_cons (pe_ix ix_tup (pe_ix ix_tup (pv 3) pe_int (fun _ _=>rfl)) pe_int (fun _ _=>rfl)) pa_nil))) (blkOk_by (N:=zdk) (sc:=defScope z3c) (by decide +kernel)) (fun _ _ _ _ _=>(pg_name (i:=4) sc_q21.nd rfl (.inl rfl))) (fun _ _ _ _ _=>pts_nil) (fun _ _ _ _ _=>(pe_op z7j (pe_tup (pa_cons (pv 2) pa_nil)) (pv 4)))) pa_nil))))))
  (pss_one (ps_ret (pv 1)))),?_⟩
 obtain ⟨a,xs,rfl,hs,hb⟩:=z1m hv
 have bl:=hb.length
 have lenb:=g.ak_len 0
 refine ⟨(by show 0<=sizeLine; decide),fun D hD=>?_⟩
 refine ⟨_,rfl,a,xs,rfl,(SB.new (ps:=[]) hD _).sqT hs,?_⟩
 refine for_it (zaq (xs:=xs)) (fun i σ H2=>SB [D] H H2/\∃ us o2 o3,σ=[some (.ref a),some (.ref D),o2,o3,none]/\H2 D=some (.lst us)/\Bears K H2 z19 us ((Gr.aks (g.ps.take i) 0).map (·.1))) ⟨SB.new hD _,[],none,none,rfl,upd_same,.nil⟩ (fun i σ H2 hi h2=>(h2.1.drop hD).sqT hs) (fun i x σ H2 H' hi h2 y=>?_) (fun σ H2 h2=>?_)
 ·obtain ⟨s2,us,o2,o3,rfl,hD2,hb2⟩:=h2
  obtain ⟨T,e1,e2,rfl,hT,rfl,ee1,ee2⟩:=y
  have he1:e1=.int (i:Nat):=(Option.some.inj ee1).symm
  subst he1
  obtain ⟨p,ep,hpd⟩:=hb.get ee2
  have pm:=List.mem_of_getElem? ep
  obtain ⟨ad,td,ux,rfl,hs2,hs3,hga,_⟩:=z0x hpd
  have t3:=SB.new (ps:=[D]) hT (.tup [.int (i:Nat),.ref ad])
  have hD3:(upd H2 T (.tup [.int (i:Nat),.ref ad])) D=some (.lst us):=by rw [upd_ne (ne_of_none hD2 hT)]; exact hD2
  have hT3:SqT K (upd H2 T (.tup [.int (i:Nat),.ref ad])) T [.int (i:Nat),.ref ad]:=SqT.of upd_same
  have s3:=s2.trans t3
  have hb3:=hb2.sb t3 z0l
  generalize hH3:upd H2 T (.tup [.int (i:Nat),.ref ad])=H3 at t3 hD3 hT3 s3 hb3
  have ul:=hb3.length
  rw [List.length_map] at ul
  have pd:=g.mem_deep p pm
  have pp:=g.mem_parts p pm
  have hsp:g.ak 0=Gr.aks (g.ps.take i) 0++Gr.akP p i++Gr.aks (g.ps.drop (i+1)) (i+1):=by
   rw [Gr.ak_ps]
   conv=>lhs; rw [<- List.take_append_drop (i+1) g.ps]
   rw [Gr.aks_append,Gr.aks_take ep,List.length_take,Nat.min_eq_left (by omega),Nat.zero_add]
  have hlen:=congrArg List.length hsp
  rw [List.length_append,List.length_append] at hlen
  have hP:(Gr.akP p i).length=1+p.1.2.parts:=by
   unfold Gr.akP
   rw [List.length_cons,List.length_map,Gr.ak_len]; omega
  refine ⟨T,_,rfl,hT3,rfl,_,_,rfl,_,_,rfl,rfl,?_⟩
  refine ⟨_,rfl,.inl ⟨rfl,_,SqL.of hD3⟩,_,rfl,(by show 1<=sizeLine; decide),fun t ht=>?_⟩
  have t4:=SB.new (ps:=[D]) ht (.tup [.int (i:Nat)])
  have hD4:(upd H3 t (.tup [.int (i:Nat)])) D=some (.lst us):=by rw [upd_ne (ne_of_none hD3 ht)]; exact hD3
  refine ⟨D,us,_,rfl,rfl,hD4,small1000 (by omega),?_⟩
  have t5:=SB.set (ps:=[D]) hD4 (by simp) (.lst (us++[.ref t]))
  have hD5:(upd (upd H3 t (.tup [.int (i:Nat)])) D (.lst (us++[.ref t]))) D=some (.lst (us++[.ref t])):=upd_same
  have hb5:=Bears.append ((hb3.sb t4 z0l).sb t5 z0l) (.cons (zdx (p:=[i]) (t5.sqT (SqT.of upd_same))) .nil)
  have s5:=(s3.trans t4).trans t5
  generalize hH5:upd (upd H3 t (.tup [.int (i:Nat)])) D (.lst (us++[.ref t]))=H5 at t5 hD5 hb5 s5
  have s5':=s5.drop hD
  refine ⟨_,rfl,.inl ⟨rfl,_,SqL.of hD5⟩,?_⟩
  refine ⟨_,rfl,ad,_,_,_,rfl,rfl,s5'.sqT hs2,atI_nat (j:=0) rfl,td,_,_,_,rfl,rfl,s5'.sqT hs3,atI_nat (j:=1) rfl,_,p.1.2,rfl,hga.sb s5',by omega,by omega,by omega,fun D2 vs2 H6 s6 nD2 hD6 hb6=>?_⟩
  have hD6':=s6.keep _ _ hD5 nmn
  have vl:=hb6.length
  rw [List.length_map] at vl
  have pal:=p.1.2.ak_len 0
  refine ⟨D2,rfl,⟨_,SqL.of hD6⟩,fun L hL=>?_⟩
  have DL:D ≠ L:=ne_of_none hD6' hL
  refine z0f (walk_list (xs:=vs2)) hL (by have:=small1000 (n:=vs2.length) (by omega); omega) (fun j ws H7=>Bears K H7 z19 ws (((p.1.2.ak 0).take j).map fun x:Pl × Str=>i::x.1)) .nil (fun H7 s7=>s7.sqL nmn (SqL.of hD6)) (fun _ _ _ _ e h=>h.sb e z0l) (fun Pv j z Hq H7 ws hj s7 yz hR hw fin _=>?_) (fun ws H7 s7 hL7 hR hw=>?_)
  ·obtain ⟨rfl,ez⟩:=yz
   obtain ⟨pl,epl,hpl⟩:=hb6.get ez
   rw [List.getElem?_map] at epl
   obtain ⟨x,ex,rfl⟩:=Option.map_eq_some_iff.mp epl
   obtain ⟨pa,rfl,hpa⟩:=z9k hpl
   have plong:=p.1.2.ak_long 0 x (List.mem_of_getElem? ex)
   refine ⟨rfl,?_⟩
   refine ⟨_,rfl,(by show 1<=sizeLine; decide),fun t ht=>?_⟩
   have t8:=SB.new (ps:=[]) ht (.tup [.int (i:Nat)])
   refine ⟨_,rfl,t,pa,_,_,rfl,rfl,SqT.of upd_same,t8.sqT (s7.sqT hpa),?_,fun c H8 s8 hc=>?_⟩
   ·rw [List.length_map,List.length_singleton]
    have:=z8y (n:=1+x.1.length) (by omega)
    omega
   refine fin _ _ (t8.trans s8) ?_
   rw [List.take_add_one,ex,Option.toList_some,List.map_append]
   exact Bears.append ((hR.sb t8 z0l).sb s8 z0l) (.cons (zdx (p:=i::x.1) hc) .nil)
  ·rw [vl,List.take_length] at hR
   have wl:=hR.length
   rw [List.length_map] at wl
   have hD7:=s7.keep _ _ hD6' nmn
   refine ⟨D,L,_,_,rfl,rfl,hD7,hL7,?_,?_⟩
   ·rw [List.length_append,List.length_singleton]
    have:=z8y (n:=us.length+1+ws.length) (by omega)
    omega
   have t8:=SB.set (ps:=[D]) hD7 (by simp) (.lst (us++[.ref t]++ws))
   refine ⟨((s5.trans s6.nil).trans s7.nil).trans t8,_,_,_,rfl,upd_same,?_⟩
   rw [Gr.aks_take ep,List.map_append]
   show Bears _ _ _ _ (_++([i]::((p.1.2.ak 0).map fun x=>(i::x.1,x.2)).map (·.1)))
   rw [List.map_map,show ∀ A B:List Pl,A++[i]::B=A++[[i]]++B from fun A B=>by simp]
   exact Bears.append (((hb5.sb s6 z0l).sb s7 z0l).sb t8 z0l) (hR.sb t8 z0l)
 ·obtain ⟨s2,us,o2,o3,rfl,hD2,hb2⟩:=h2
  rw [bl,List.take_length,<- Gr.ak_ps] at hb2
  exact ⟨_,rfl,q D us H2 (s2.drop hD) hD hD2 hb2⟩
theorem zgs:FnScope ["thing"] ["thing"] (defScope z5n):=⟨rfl,rfl,rfl,by decide +kernel,rfl,by decide +kernel,by decide +kernel⟩
theorem zc2 {ps:List Str} {k:Nat}:FnOk P w K mg base CX0 k f fd ps (z1f K 0):=z16 fun vs H Q E ⟨v,d,_,_,h,_⟩=>by omega
theorem zid {n:Nat} (B:BI mg) (GN:Got P w K mg base "is_name" ["thing"] 2 (z72 K)) (G:Got P w K mg base "is_grove" ["thing"] (n+3) (z1c K n)) (F:Fun K "is_tree" "is_tree" z5n f fd) :
  FnOk P w K mg base CX0 (n+4) f fd ["thing"] (z1f K (n+1)):=by
 refine F.ok zgs (fun vs H Q E h=>?_) (fun cdv A outer s H vs Q E hr h=>?_)
 ·obtain ⟨v,l,rfl,_⟩:=h
  rfl
 obtain ⟨v,d,rfl,th,hd,h80,hw,q⟩:=h
 refine ⟨_,pss_one (ps_ret (pe_and (z0z B (pv 0) B.tuple boot_tuple) (pe_and (pe_cmpR op_eq (pe_callB call_len_seq rfl B.len PySem.boot_len (pa_cons (pv 0) pa_nil)) pe_int (nomark _))
  (pe_and (z00 GN (hr.mono (by omega)) rfl (pa_cons (pe_ix ix_tup (pv 0) pe_int (fun _ _=>rfl)) pa_nil)) (pe_one (z00 G hr rfl (pa_cons (pe_ix ix_tup (pv 0) pe_int (fun _ _=>rfl)) pa_nil))))))),?_⟩
 obtain ⟨n1,b,ty,kb,y1,y2⟩:=th.ty
 refine ⟨_,rfl,_,_,n1,b,rfl,ty,kb,b,rfl,?_⟩
 cases b with
 | false =>
  refine iteF ?_
  have e:z0g d=false:=by
   cases d with
   | tuple ds=>exact absurd rfl (y2 rfl ds)
   | _=>simp [z0g]
  have:=q H SB.refl
  rw [e] at this
  exact this
 | true =>
 refine iteT ?_
 obtain ⟨a,xs,ds,rfl,rfl,hs,ha⟩:=y1 rfl
 refine ⟨_,rfl,a,xs,rfl,.inr hs,rfl,_,rfl,?_⟩
 have hl:=TgAll.length ha
 refine ite2 (fun c=>?_) (fun c=>?_)
 ·have c':V.int (xs.length:Nat)=V.int 2:=of_decide_eq_true c
  injection c' with c'
  have c2:xs.length=2:=by omega
  cases ha with
  | nil=>simp at c2
  | cons t1 ta =>
   cases ta with
   | nil=>simp at c2
   | cons t2 ta =>
    cases ta with
    | cons t3 ta=>simp at c2
    | nil =>
     rename_i v1 d1 v2 d2
     have q1:d2.depth < PyData.depth (.tuple [d1,d2]):=by simp only [PyData.depth,PyData.depthAll]; omega
     have q2:wide d2<=wide (.tuple [d1,d2]):=by simp only [wide,z0w]; omega
     refine ⟨_,rfl,a,_,_,_,rfl,rfl,hs,atI_nat (j:=0) rfl,v1,d1,rfl,t1,fun H1 h1=>?_⟩
     refine ⟨_,rfl,?_⟩
     cases e1:z15 d1 with
     | false =>
      refine iteF ?_
      have:=q H1 h1
      have e:z0g (.tuple [d1,d2])=false:=by simp [z0g,trD2,e1]
      rw [e] at this
      exact this
     | true =>
      refine iteT ?_
      refine ⟨_,rfl,a,_,_,_,rfl,rfl,h1.sqT hs,atI_nat (j:=1) rfl,v2,d2,rfl,z1p h1 t2,by omega,by omega,by omega,fun H2 h2=>?_⟩
      have:=q H2 (h1.trans h2)
      have e:z0g (.tuple [d1,d2])=z09 d2:=by simp [z0g,trD2,trD3,e1]
      rw [e] at this
      exact this
 ·have c':¬ V.int (xs.length:Nat)=V.int 2:=of_decide_eq_false (Bool.eq_false_iff.mpr c)
  have c2:¬ xs.length=2:=fun z=>c' (by rw [z]; rfl)
  have e:z0g (.tuple ds)=false:=by
   cases e:z0g (.tuple ds) with
   | false=>rfl
   | true =>
    obtain ⟨t,e2⟩:=z8u _ e
    injection e2 with e2
    rw [e2] at hl
    exact absurd hl c2
  have:=q H SB.refl
  rw [e] at this
  exact this
abbrev zdq:List Str:=["thing","pair"]
theorem sc_q31:FnScope zdq ["thing"] (defScope z3s):=⟨rfl,rfl,rfl,by decide +kernel,rfl,by decide +kernel,by decide +kernel⟩
theorem zd3 {ps:List Str} {k:Nat}:FnOk P w K mg base CX0 k f fd ps (z1c K 0):=z16 fun vs H Q E ⟨v,d,_,_,h,_⟩=>by omega
theorem zbz (bs:List (Tr × Int)):(bs.map Gr.pEnc).map exp0=bs.map fun p=>Gr.tEnc p.1:=by rw [List.map_map]; rfl
theorem z60:∀ bs:List (Tr × Int),z06 (bs.map fun p=>Gr.tEnc p.1)=true
 | []=>by simp [z06]
 | p::r=>by rw [List.map_cons,z06,z60 r,Gr.noList_tEnc]; rfl
theorem zhy {n:Nat} (B:BI mg) (GR:Got P w K mg base "is_rising" ["things"] 1 (z6b K)) (G:Got P w K mg base "are_grove_pairs" ["things"] (n+3) (z1j K true n)) (F:Fun K "is_grove" "is_grove" z3s f fd) :
  FnOk P w K mg base CX0 (n+4) f fd ["thing"] (z1c K (n+1)):=by
 refine F.ok sc_q31 (fun vs H Q E h=>?_) (fun cdv A outer s H vs Q E hr h=>?_)
 ·obtain ⟨v,l,rfl,_⟩:=h
  rfl
 obtain ⟨v,d,rfl,th,hd,h80,hw,q⟩:=h
 refine ⟨_,pss_cons (ps_if (PW.pt (pw_or (pt_not (pt_val (z0z B (pv 0) B.tuple boot_tuple))) (pw_or1 (pt_not (pt_val (z00 G hr rfl (pa_cons (pv 0) pa_nil))))))) (pss_one (ps_ret pe_bl)) pss_nil)
  (pss_one (ps_ret (z00 GR (hr.mono (by omega)) rfl (pa_cons (pe_lc (own:=[("pair",1)]) (g:=gName 1) (tt:=tYes) (te:=tOp (rIxT K) (tVar 1) (tC (.int 0))) rfl sc_q31.nd
   (pi_tup (pv 0))
   (blkOk_by (N:=zdq) (sc:=defScope z3s) (by decide +kernel))
   (fun _ _ _ _ _=>pg_name (i:=1) sc_q31.nd rfl (.inl rfl))
   (fun _ _ _ _ _=>pts_nil)
   (fun _ _ _ _ _=>pe_ix ix_tup (pv 1) pe_int (fun _ _=>rfl))) pa_nil)))),?_⟩
 obtain ⟨n1,b,ty,kb,y1,y2⟩:=th.ty
 refine ⟨_,rfl,_,_,n1,b,rfl,ty,kb,b,rfl,?_⟩
 cases b with
 | false =>
  refine iteT (iteT ?_)
  have e:z09 d=false:=by
   cases d with
   | tuple ds=>exact absurd rfl (y2 rfl ds)
   | _=>simp [z09]
  have:=q H SB.refl
  rw [e] at this
  exact this
 | true =>
 refine iteF ?_
 obtain ⟨a,xs,ds,rfl,rfl,hs,ha⟩:=y1 rfl
 have hl:=TgAll.length ha
 have m3:PyData.depth (.tuple ds)=PyData.depthAll ds+1:=by simp [PyData.depth]
 refine ⟨_,rfl,a,xs,ds,rfl,by simpa using hs,ha,by omega,by omega,hw,fun H2 h2=>⟨_,rfl,?_⟩⟩
 cases e1:grPs ds with
 | false =>
  refine iteT ?_
  have:=q H2 h2
  rw [z09,e1] at this
  exact this
 | true =>
  refine iteF ?_
  obtain ⟨g,rfl⟩:=z6j ds e1
  have hga:GA K H (.ref a) g:=Dp.tup hs (z3i g ha)
  obtain ⟨a',xs',e',hs',hb⟩:=z1m (hga.sb h2)
  cases e'
  have hlen:=hb.length
  have gl:g.encs.length=g.ps.length:=by rw [Gr.encs_ps,List.length_map]
  rw [z3a] at hw
  refine ⟨_,rfl,a,rfl,⟨xs',hs'⟩,fun D hD=>?_⟩
  refine lc_it (walk_tup (xs:=xs')) (fun i H3=>SB [D] H2 H3/\∃ acc,H3 D=some (.lst acc)/\DpAll K H3 acc ((g.ps.take i).map fun p=>Gr.tEnc p.1)) ⟨SB.new hD _,[],upd_same,.nil⟩ (fun i H3 hi h3=>(h3.1.drop hD).sqT hs') (fun i x H3 H' hi h3 y=>?_) (fun H3 h3=>?_)
  ·obtain ⟨h3,acc,h4,h5⟩:=h3
   obtain ⟨rfl,ex⟩:=y
   obtain ⟨p,ep,hpd⟩:=hb.get ex
   obtain ⟨ad,bd,ux,rfl,hsx,hst,hdx,hdt⟩:=z0x hpd
   have h6:=h3.drop hD
   have hla2:=DpAll.length h5
   refine ⟨rfl,?_⟩
   refine ⟨_,rfl,ad,_,_,_,rfl,rfl,h6.sqT hsx,atI_nat (j:=0) rfl,acc,h4,?_,?_⟩
   ·rw [hla2,List.length_map,List.length_take]
    exact small1000 (by omega)
   ·have h7:=SB.set (ps:=[D]) h4 (by simp) (.lst (acc++[.ref bd]))
    refine ⟨h3.trans h7,_,upd_same,?_⟩
    rw [List.take_add_one,ep,List.map_append]
    exact DpAll.append (z23 h7 _ _ (z60 _) h5) (.cons (z0e h7 _ _ (Gr.noList_tEnc _) (z0e h6 _ _ (Gr.noList_tEnc _) hdt)) .nil)
  ·obtain ⟨h3',acc,h4,h5⟩:=h3
   rw [hlen,List.take_length] at h5
   have h6:=h3'.drop hD
   have hla2:=DpAll.length h5
   refine ⟨D,acc,g.ps.map fun p=>Gr.tEnc p.1,rfl,SqL.of h4,h5,?_,?_,?_,fun H9 h9=>?_⟩
   ·intro d hd'
    obtain ⟨p1,m1,rfl⟩:=List.mem_map.mp hd'
    have hd2:(Gr.pEnc p1).depth<=PyData.depthAll g.encs:=PyData.depth_le_depthAll _ _ (by rw [Gr.encs_ps]; exact List.mem_map_of_mem m1)
    have hd3:(Gr.tEnc p1.1).depth < (Gr.pEnc p1).depth:=by
     show _ < (PyData.tuple [Gr.tEnc p1.1,.int p1.2]).depth
     simp only [PyData.depth,PyData.depthAll]; omega
    exact ⟨Gr.noList_tEnc _,(fun z:Gr.tEnc p1.1=.none=>by simp [Gr.tEnc] at z),by omega⟩
   ·intro d hd' d2 hd2
    obtain ⟨p1,_,rfl⟩:=List.mem_map.mp hd'
    obtain ⟨p2,_,rfl⟩:=List.mem_map.mp hd2
    exact Orderly.al (enc:=Gr.tEnc) _ _
   ·rw [hla2,List.length_map]; omega
   ·have:=q H9 ((h2.trans h6).trans h9)
    rw [z09,e1,Bool.true_and,Gr.encs_ps,zbz] at this
    exact this
abbrev z96:List Str:=["things","thing"]
theorem sc_q23:FnScope z96 ["things"] (defScope z47):=⟨rfl,rfl,rfl,by decide +kernel,rfl,by decide +kernel,by decide +kernel⟩
theorem zd1 {ps:List Str} {tp:Bool} {k:Nat}:FnOk P w K mg base CX0 k f fd ps (z1j K tp 0):=z16 fun vs H Q E ⟨a,xs,ds,_,_,_,h,_⟩=>by omega
theorem z2a:∀ ds:List PyData,grPs ds=ds.all grP
 | []=>by rw [grPs]; rfl
 | d::ds=>by rw [grPs,z2a ds]; rfl
theorem zgy {n:Nat} (B:BI mg) (GM:Got P w K mg base "is_many" ["thing"] 2 (z6z K [])) (G:Got P w K mg base "is_tree" ["thing"] (n+3) (z1f K n)) (F:Fun K "are_grove_pairs" "are_grove_pairs" z47 f fd) :
  FnOk P w K mg base CX0 (n+4) f fd ["things"] (z1j K true (n+1)):=by
 refine F.ok sc_q23 (fun vs H Q E h=>?_) (fun cdv A outer s H vs Q E hr h=>?_)
 ·obtain ⟨a,xs,ds,rfl,_⟩:=h
  rfl
 obtain ⟨a,xs,ds,rfl,hs,ha,hd,h79,hw,q⟩:=h
 refine ⟨_,pss_cons (ps_for PassesOwn.never rfl (pi_tup (pv 0)) (pg_name (i:=1) sc_q23.nd rfl (.inl rfl))
   (pss_cons (ps_if (PW.pt (pw_or (pt_not (pt_val (z0z B (pv 1) B.tuple boot_tuple))) (pw_or1 (pt_cmpR op_ne (pe_callB call_len_seq rfl B.len PySem.boot_len (pa_cons (pv 1) pa_nil)) pe_int (nomark _))))) (pss_one (ps_ret pe_bl)) pss_nil)
   (pss_one (ps_if (PW.pt (pw_or (pt_not (pt_val (z00 G hr rfl (pa_cons (pe_ix ix_tup (pv 1) pe_int (fun _ _=>rfl)) pa_nil)))) (pw_or1 (pt_not (pt_val (z00 GM (hr.mono (by omega)) rfl (pa_cons (pe_ix ix_tup (pv 1) pe_int (fun _ _=>rfl)) pa_nil))))))) (pss_one (ps_ret pe_bl)) pss_nil))))
  (pss_one (ps_ret pe_bl)),?_⟩
 have hs:SqT K H a xs:=by simpa using hs
 have hl:=TgAll.length ha
 rw [z3a] at hw
 refine ⟨_,rfl,a,rfl,⟨xs,hs⟩,?_⟩
 refine for_tup (K:=K) (a:=a) (xs:=xs) (fun i σ H2=>SB [] H H2/\(∃ o,σ=[some (.ref a),o])/\(ds.take i).all grP=true) ⟨SB.refl,⟨none,rfl⟩,by simp⟩ (fun i σ H2 hi h2=>h2.1.sqT hs) (fun i x σ H2 hx h2=>?_) (fun σ H2 h2=>?_)
 ·obtain ⟨h2,⟨o,rfl⟩,h3⟩:=h2
  obtain ⟨dx,ex,tx⟩:=TgAll.get ha hx
  have mx:=List.mem_of_getElem? ex
  have m1:=z4r ex
  have m2:=z6a _ _ mx
  have no:grP dx=false->∀ H',SB [] H2 H'->Q (.bl false) H':=fun e H' s'=>by
   have:=q H' (h2.trans s')
   have e2:grPs ds=false:=by
    rw [z2a,List.all_eq_false]
    exact ⟨dx,mx,by rw [e]; exact Bool.false_ne_true⟩
   rw [e2] at this
   exact this
  obtain ⟨n1,b,ty,kb,y1,y2⟩:=(z1p h2 tx).ty
  refine ⟨_,rfl,_,_,n1,b,rfl,ty,kb,b,rfl,?_⟩
  cases b with
  | false =>
   refine iteT (iteT (no ?_ _ SB.refl))
   cases dx with
   | tuple ds=>exact absurd rfl (y2 rfl ds)
   | _=>simp [grP]
  | true =>
  refine iteF ?_
  obtain ⟨b1,ys,es,rfl,rfl,hs1,ha1⟩:=y1 rfl
  refine ⟨_,rfl,b1,ys,rfl,.inr hs1,rfl,_,rfl,?_⟩
  have hl1:=TgAll.length ha1
  by_cases c2:ys.length=2
  ·rw [show (!decide (V.int (ys.length:Nat)=V.int 2))=false by rw [c2]; rfl]
   refine iteF ?_
   cases ha1 with
   | nil=>simp at c2
   | cons t1 ta =>
    cases ta with
    | nil=>simp at c2
    | cons t2 ta =>
     cases ta with
     | cons t3 ta=>simp at c2
     | nil =>
      rename_i v1 d1 v2 d2
      have q1:d1.depth < PyData.depth (.tuple [d1,d2]):=by simp only [PyData.depth,PyData.depthAll]; omega
      have q2:wide d1<=wide (.tuple [d1,d2]):=by simp only [wide,z0w]; omega
      refine ⟨_,rfl,b1,_,_,_,rfl,rfl,hs1,atI_nat (j:=0) rfl,v1,d1,rfl,t1,by omega,by omega,by omega,fun H3 h3'=>?_⟩
      refine ⟨_,rfl,?_⟩
      cases e1:z0g d1 with
      | false=>exact iteT (iteT (no (by simp [grP,grP2,e1]) _ h3'))
      | true =>
       refine iteF ?_
       refine ⟨_,rfl,b1,_,_,_,rfl,rfl,h3'.sqT hs1,atI_nat (j:=1) rfl,v2,z1q d2,rfl,(z1p h3' t2).th,_,rfl,?_⟩
       rw [z6v]
       have e:grP (.tuple [d1,d2])=z0q d2:=by simp [grP,grP2,z0u,e1]
       cases e2:z0q d2 with
       | false=>exact iteT (no (by rw [e,e2]) _ h3')
       | true =>
        refine iteF ⟨h2.trans h3',⟨_,rfl⟩,?_⟩
        rw [List.take_add_one,ex,List.all_append,h3]
        simp [e,e2]
  ·rw [show (!decide (V.int (ys.length:Nat)=V.int 2))=true by rw [decide_eq_false (fun z=>by injection z with z; omega)]; rfl]
   refine iteT (no ?_ _ SB.refl)
   cases e:grP (.tuple es) with
   | false=>rfl
   | true =>
    obtain ⟨t,i,e2,_⟩:=z76 _ e
    injection e2 with e2
    rw [e2] at hl1
    exact absurd hl1 c2
 ·obtain ⟨h2,⟨o,rfl⟩,h3⟩:=h2
  rw [hl,List.take_length,<- z2a] at h3
  have:=q H2 h2
  rw [h3] at this
  exact this
theorem z4m {n:Nat} (B:BI mg) (GM:Got P w K mg base "is_many" ["thing"] 2 (z6z K [])) (G:Got P w K mg base "is_tree" ["thing"] (n+3) (z1f K n)) (F:Fun K "are_grove_pairs" "are_grove_pairs" z47 f fd) :
  FnOk P w K mg base CX0 (n+4) f fd ["things"] (z1j K false (n+1)):=by
 refine F.ok sc_q23 (fun vs H Q E h=>?_) (fun cdv A outer s H vs Q E hr h=>?_)
 ·obtain ⟨a,xs,ds,rfl,_⟩:=h
  rfl
 obtain ⟨a,xs,ds,rfl,hs,ha,hd,h79,hw,q⟩:=h
 refine ⟨_,pss_cons (ps_for PassesOwn.never rfl (pi_list (pv 0)) (pg_name (i:=1) sc_q23.nd rfl (.inl rfl))
   (pss_cons (ps_if (PW.pt (pw_or (pt_not (pt_val (z0z B (pv 1) B.tuple boot_tuple))) (pw_or1 (pt_cmpR op_ne (pe_callB call_len_seq rfl B.len PySem.boot_len (pa_cons (pv 1) pa_nil)) pe_int (nomark _))))) (pss_one (ps_ret pe_bl)) pss_nil)
   (pss_one (ps_if (PW.pt (pw_or (pt_not (pt_val (z00 G hr rfl (pa_cons (pe_ix ix_tup (pv 1) pe_int (fun _ _=>rfl)) pa_nil)))) (pw_or1 (pt_not (pt_val (z00 GM (hr.mono (by omega)) rfl (pa_cons (pe_ix ix_tup (pv 1) pe_int (fun _ _=>rfl)) pa_nil))))))) (pss_one (ps_ret pe_bl)) pss_nil))))
  (pss_one (ps_ret pe_bl)),?_⟩
 have hs:SqL K H a xs:=by simpa using hs
 have hl:=TgAll.length ha
 rw [z3a] at hw
 refine ⟨_,rfl,a,rfl,⟨xs,hs⟩,?_⟩
 refine for_list (K:=K) (a:=a) (xs:=xs) (fun i σ H2=>SB [] H H2/\(∃ o,σ=[some (.ref a),o])/\(ds.take i).all grP=true) ⟨SB.refl,⟨none,rfl⟩,by simp⟩ (fun i σ H2 hi h2=>h2.1.sqL nmn hs) (fun i x σ H2 hx h2=>?_) (fun σ H2 h2=>?_)
 ·obtain ⟨h2,⟨o,rfl⟩,h3⟩:=h2
  obtain ⟨dx,ex,tx⟩:=TgAll.get ha hx
  have mx:=List.mem_of_getElem? ex
  have m1:=z4r ex
  have m2:=z6a _ _ mx
  have no:grP dx=false->∀ H',SB [] H2 H'->Q (.bl false) H':=fun e H' s'=>by
   have:=q H' (h2.trans s')
   have e2:grPs ds=false:=by
    rw [z2a,List.all_eq_false]
    exact ⟨dx,mx,by rw [e]; exact Bool.false_ne_true⟩
   rw [e2] at this
   exact this
  obtain ⟨n1,b,ty,kb,y1,y2⟩:=(z1p h2 tx).ty
  refine ⟨_,rfl,_,_,n1,b,rfl,ty,kb,b,rfl,?_⟩
  cases b with
  | false =>
   refine iteT (iteT (no ?_ _ SB.refl))
   cases dx with
   | tuple ds=>exact absurd rfl (y2 rfl ds)
   | _=>simp [grP]
  | true =>
  refine iteF ?_
  obtain ⟨b1,ys,es,rfl,rfl,hs1,ha1⟩:=y1 rfl
  refine ⟨_,rfl,b1,ys,rfl,.inr hs1,rfl,_,rfl,?_⟩
  have hl1:=TgAll.length ha1
  by_cases c2:ys.length=2
  ·rw [show (!decide (V.int (ys.length:Nat)=V.int 2))=false by rw [c2]; rfl]
   refine iteF ?_
   cases ha1 with
   | nil=>simp at c2
   | cons t1 ta =>
    cases ta with
    | nil=>simp at c2
    | cons t2 ta =>
     cases ta with
     | cons t3 ta=>simp at c2
     | nil =>
      rename_i v1 d1 v2 d2
      have q1:d1.depth < PyData.depth (.tuple [d1,d2]):=by simp only [PyData.depth,PyData.depthAll]; omega
      have q2:wide d1<=wide (.tuple [d1,d2]):=by simp only [wide,z0w]; omega
      refine ⟨_,rfl,b1,_,_,_,rfl,rfl,hs1,atI_nat (j:=0) rfl,v1,d1,rfl,t1,by omega,by omega,by omega,fun H3 h3'=>?_⟩
      refine ⟨_,rfl,?_⟩
      cases e1:z0g d1 with
      | false=>exact iteT (iteT (no (by simp [grP,grP2,e1]) _ h3'))
      | true =>
       refine iteF ?_
       refine ⟨_,rfl,b1,_,_,_,rfl,rfl,h3'.sqT hs1,atI_nat (j:=1) rfl,v2,z1q d2,rfl,(z1p h3' t2).th,_,rfl,?_⟩
       rw [z6v]
       have e:grP (.tuple [d1,d2])=z0q d2:=by simp [grP,grP2,z0u,e1]
       cases e2:z0q d2 with
       | false=>exact iteT (no (by rw [e,e2]) _ h3')
       | true =>
        refine iteF ⟨h2.trans h3',⟨_,rfl⟩,?_⟩
        rw [List.take_add_one,ex,List.all_append,h3]
        simp [e,e2]
  ·rw [show (!decide (V.int (ys.length:Nat)=V.int 2))=true by rw [decide_eq_false (fun z=>by injection z with z; omega)]; rfl]
   refine iteT (no ?_ _ SB.refl)
   cases e:grP (.tuple es) with
   | false=>rfl
   | true =>
    obtain ⟨t,i,e2,_⟩:=z76 _ e
    injection e2 with e2
    rw [e2] at hl1
    exact absurd hl1 c2
 ·obtain ⟨h2,⟨o,rfl⟩,h3⟩:=h2
  rw [hl,List.take_length,<- z2a] at h3
  have:=q H2 h2
  rw [h3] at this
  exact this
theorem sc_q51:FnScope ["grove","found","pair"] ["grove"] (defScope z5k):=⟨rfl,rfl,rfl,by decide +kernel,rfl,by decide +kernel,by decide +kernel⟩
theorem zhx {n:Nat} (G:Got P w K mg base "pairs_within" ["grove"] n (z1h K n)) (F:Fun K "pairs_within" "pairs_within" z5k f fd):FnOk P w K mg base CX0 (n+1) f fd ["grove"] (z1h K (n+1)):=by
 refine F.ok sc_q51 (fun vs H Q E h=>?_) (fun cdv A outer s H vs Q E hr h=>?_)
 ·obtain ⟨v,g,rfl,_⟩:=h
  rfl
 obtain ⟨v,g,rfl,hg,hd,hp,q⟩:=h
 refine ⟨_,pss_cons (ps_set (i:=1) sc_q51.nd rfl (.inl rfl) (pe_lst pa_nil))
  (pss_cons (ps_for PassesOwn.never rfl (pi_tup (pv 0)) (pg_name (i:=2) sc_q51.nd rfl (.inl rfl))
   (pss_cons (ps_expr (pe_bm PySem.F.plainAttrs_list PySem.F.slot_list_append PySem.F.type_list_append mt_append (pv 1) (pa_cons (pv 2) pa_nil)))
   (pss_one (ps_expr (pe_bm PySem.F.plainAttrs_list PySem.F.slot_list_extend PySem.F.type_list_extend mt_extend (pv 1) (pa_cons (z00 G hr rfl (pa_cons (pe_ix ix_tup (pe_ix ix_tup (pv 2) pe_int (fun _ _=>rfl)) pe_int (fun _ _=>rfl)) pa_nil)) pa_nil))))))
  (pss_one (ps_ret (pv 1)))),?_⟩
 obtain ⟨a,xs,rfl,hs,hb⟩:=z1m hg
 have bl:=hb.length
 have wl:=g.within_length
 refine ⟨(by show 0<=sizeLine; decide),fun D hD=>?_⟩
 refine ⟨_,rfl,a,rfl,⟨xs,(SB.new (ps:=[]) hD _).sqT hs⟩,?_⟩
 refine for_it (walk_tup (xs:=xs)) (fun i σ H2=>SB [D] H H2/\∃ us o2,σ=[some (.ref a),some (.ref D),o2]/\H2 D=some (.lst us)/\Bears K H2 Gr.pEnc us ((g.ps.take i).flatMap fun p=>p::p.1.2.within)) ⟨SB.new hD _,[],none,rfl,upd_same,.nil⟩ (fun i σ H2 hi h2=>(h2.1.drop hD).sqT hs) (fun i x σ H2 H' hi h2 y=>?_) (fun σ H2 h2=>?_)
 ·obtain ⟨s2,us,o2,rfl,hD2,hb2⟩:=h2
  obtain ⟨rfl,ex⟩:=y
  obtain ⟨p,ep,hpd⟩:=hb.get ex
  have pm:=List.mem_of_getElem? ep
  obtain ⟨ad,td,ux,rfl,hs2,hs3,hga,_⟩:=z0x hpd
  have s2':=s2.drop hD
  have ul:=hb2.length
  have hsplit:(g.ps.take (i+1)).flatMap (fun p=>p::p.1.2.within)=(g.ps.take i).flatMap (fun p=>p::p.1.2.within)++(p::p.1.2.within):=by rw [List.take_add_one,ep]; simp
  have hle:((g.ps.take i).flatMap (fun p=>p::p.1.2.within)).length+(p.1.2.within.length+1)<=200000:=by
   have h1:g.within=(g.ps.take (i+1)).flatMap (fun p=>p::p.1.2.within)++(g.ps.drop (i+1)).flatMap (fun p=>p::p.1.2.within):=by rw [Gr.within_ps,<- List.flatMap_append,List.take_append_drop]
   have h2:=congrArg List.length h1
   rw [hsplit,List.length_append,List.length_append,List.length_cons,wl] at h2
   omega
  refine ⟨_,rfl,.inl ⟨rfl,_,SqL.of hD2⟩,_,rfl,D,us,_,rfl,rfl,hD2,z8y (by omega),?_⟩
  have t3:=SB.set (ps:=[D]) hD2 (by simp) (.lst (us++[.ref ad]))
  have hD3:(upd H' D (.lst (us++[.ref ad]))) D=some (.lst (us++[.ref ad])):=upd_same
  have hb3:=Bears.append (hb2.sb t3 Gr.noList_pEnc) (.cons (z0e (s2.trans t3) _ _ (Gr.noList_pEnc _) hpd) .nil)
  have s3:=s2.trans t3
  have s3':=s3.drop hD
  generalize hH3:upd H' D (.lst (us++[.ref ad]))=H3 at t3 hD3 hb3 s3 s3'
  have pd:=g.mem_deep p pm
  have pp:=g.mem_parts p pm
  refine ⟨_,rfl,.inl ⟨rfl,_,SqL.of hD3⟩,_,rfl,ad,_,_,_,rfl,rfl,s3'.sqT hs2,atI_nat (j:=0) rfl,td,_,_,_,rfl,rfl,s3'.sqT hs3,atI_nat (j:=1) rfl,ux,p.1.2,rfl,hga.sb s3',by omega,by omega,fun D2 vs2 H4 s4 hDn hD4 hb4=>?_⟩
  have hD4':=s4.keep _ _ hD3 nmn
  have vl:=hb4.length
  refine ⟨D,D2,_,_,rfl,rfl,hD4',hD4,?_,?_⟩
  ·rw [List.length_append,List.length_singleton]
   have:1000000<=sizeLine:=by decide
   omega
  have t5:=SB.set (ps:=[D]) hD4' (by simp) (.lst (us++[.ref ad]++vs2))
  refine ⟨(s3.trans s4.nil).trans t5,_,_,rfl,upd_same,?_⟩
  rw [hsplit,show ((g.ps.take i).flatMap (fun p=>p::p.1.2.within)++(p::p.1.2.within))=(g.ps.take i).flatMap (fun p=>p::p.1.2.within)++[p]++p.1.2.within by simp]
  exact Bears.append ((hb3.sb s4 Gr.noList_pEnc).sb t5 Gr.noList_pEnc) (hb4.sb t5 Gr.noList_pEnc)
 ·obtain ⟨s2,us,o2,rfl,hD2,hb2⟩:=h2
  rw [bl,List.take_length,<- Gr.within_ps] at hb2
  exact ⟨_,rfl,q D us H2 (s2.drop hD) hD hD2 hb2⟩
abbrev zjh:List Str:=["book","name","found","rule","once","each"]
theorem sc_q61:FnScope zjh ["book","name"] (defScope z58):=⟨rfl,rfl,rfl,by decide +kernel,rfl,by decide +kernel,by decide +kernel⟩
theorem zhs {C_Book C_NoKind:Addr} (B:BI mg) (G_q2:z4f P w K mg base C_Book "rules" ["self","name"] (4) (z3p K C_Book C_NoKind)) (G_q60:Got P w K mg base "steps_in" ["name","rule","word","grove"] (21) (z4o K)) (F:Fun K "steps_of" "steps_of" z58 f fd):FnOk P w K mg base (L2.CX P w) (22) f fd ["book","name"] (z51 K C_Book C_NoKind):=by
 refine F.okX sc_q61 (fun vs H Q E h=>?_) (fun cdv A outer s H vs Q E hr h=>?_)
 ·obtain ⟨v,b,n,rfl,_⟩:=h
  rfl
 obtain ⟨v,b,n,rfl,hv,ok,qk,qE⟩:=h
 have hun2:=hunT hr
 refine ⟨_,pss_cons (ps_set (i:=2) sc_q61.nd rfl (.inl rfl) (pe_lst pa_nil))
  (pss_cons (ps_for (passes_of rfl) rfl (zc5 rfl B.enumerate (z8g G_q2 (hr.mono (by omega)) (takes_of rfl rfl rfl rfl) (pv 0) (pa_cons (pv 1) pa_nil))) (pg_tup rfl (pgs_cons (pg_name (i:=3) sc_q61.nd rfl (.inl rfl)) (pgs_cons (pg_tup rfl (pgs_cons (pg_name (i:=4) sc_q61.nd rfl (.inl rfl)) (pgs_cons (pg_name (i:=5) sc_q61.nd rfl (.inl rfl)) pgs_nil))) pgs_nil)))
   (pss_cons (ps_expr (pe_bm PySem.F.plainAttrs_list PySem.F.slot_list_extend PySem.F.type_list_extend mt_extend (pv 2) (pa_cons (z00 G_q60 (hr.mono (by omega)) rfl (pa_cons (pv 1) (pa_cons (pv 3) (pa_cons pe_str (pa_cons (pv 4) pa_nil))))) pa_nil)))
  (pss_one (ps_expr (pe_bm PySem.F.plainAttrs_list PySem.F.slot_list_extend PySem.F.type_list_extend mt_extend (pv 2) (pa_cons (z00 G_q60 (hr.mono (by omega)) rfl (pa_cons (pv 1) (pa_cons (pv 3) (pa_cons pe_str (pa_cons (pv 5) pa_nil))))) pa_nil))))))
  (pss_one (ps_ret (pv 2)))),?_⟩
 have szl:=sizeLine_eq
 obtain ⟨va,vdx,vd1,vd2,rfl,hva⟩:=hv.at
 have b8:=ok.len
 have rok:∀ k ∈ b,k.rs.length<=1000:=fun k hk=>by have:=(ok.kd k hk).2.1; omega
 refine ⟨(by show 0<=sizeLine; decide),fun D hD=>?_⟩
 have t1:=SB.new (ps:=[]) hD (.lst [])
 have hD1:upd H D (.lst []) D=some (.lst []):=upd_same
 generalize upd H D (.lst [])=H1 at t1 hD1
 refine ⟨_,rfl,va,vdx,_,rfl,t1.keep _ _ hva nmn,rfl,_,rfl,_,b,n,rfl,hv.sb0 t1,by omega,rok,fun k eg ll us H2 s2 nll hll hbl=>?_,fun z d H' s' nd hd=>qE z d H' (t1.trans s') (Classical.byContradiction fun y=>by
  have:=t1.dom d; exact y (t1.dom d nd)) hd⟩
 obtain ⟨hk,rfl⟩:=Bk.get_some eg
 obtain ⟨kn,r4,rr⟩:=ok.kd k hk
 have ul:=hbl.length
 have lD:ll ≠ D:=fun z=>by rw [z,hD1] at nll; cases nll
 have zl:(k.rs.zipIdx 1).length=k.rs.length:=List.length_zipIdx
 have stl:=Kd.steps_len r4 fun r hr=>(rr r hr).1
 refine ⟨ll,us,rfl,SqL.of hll,?_⟩
 refine for_it (zak (xs:=us)) (fun i σ H3=>SB [D] H2 H3/\∃ ws o3 o4 o5,σ=[some (.ref va),some (.str k.n),some (.ref D),o3,o4,o5]/\H3 D=some (.lst ws)/\Bears K H3 Sx.enc ws (((k.rs.zipIdx 1).take i).flatMap (stR k.n))) ⟨SB.refl,[],none,none,none,rfl,s2.keep _ _ hD1 nmn,.nil⟩ (fun i σ H3 hi h3=>h3.1.sqL (by simpa using lD) (SqL.of hll)) (fun i x σ H3 H' hi h3 y=>?_) (fun σ H3 h3=>?_)
 ·obtain ⟨s3,ws,o3,o4,o5,rfl,hD3,hb3⟩:=h3
  obtain ⟨T,e1,e2,rfl,hT,rfl,ee1,ee2⟩:=y
  have he1:e1=.int ((i+1:Nat):Int):=(Option.some.inj ee1).symm
  subst he1
  obtain ⟨r,er,hr1⟩:=hbl.get ee2
  have hr2:=z0e s3 _ _ (Ru.noList_enc r) hr1
  have ro:=(rr r (List.mem_of_getElem? er)).1
  have ez:(k.rs.zipIdx 1)[i]?=some (r,i+1):=by rw [List.getElem?_zipIdx,er,Nat.add_comm]; rfl
  have hsp:((k.rs.zipIdx 1).take (i+1)).flatMap (stR k.n)=((k.rs.zipIdx 1).take i).flatMap (stR k.n)++stG k.n (i+1) "once" r.1++stG k.n (i+1) "each" r.2:=by
   rw [List.take_add_one,ez,List.flatMap_append]
   simp [stR]
  have hlen:(((k.rs.zipIdx 1).take (i+1)).flatMap (stR k.n)).length<=k.steps.length:=by
   show _<=((k.rs.zipIdx 1).flatMap (stR k.n)).length
   conv=>rhs; rw [<- List.take_append_drop (i+1) (k.rs.zipIdx 1),List.flatMap_append,List.length_append]
   omega
  rw [hsp,List.length_append,List.length_append,z20,z20] at hlen
  have wl:=hb3.length
  cases (hr2:Dp K H3 e2 (.tuple [r.1.enc,r.2.enc])) with
  | @tup ad us' _ hs' hda =>
  cases hda with
  | cons g1 hda =>
  cases hda with
  | cons g2 hda =>
  cases hda
  rename_i u1 u2
  have t4:=SB.new (ps:=[]) hT (.tup [.int ((i+1:Nat):Int),.ref ad])
  have hT4:SqT K (upd H3 T (.tup [.int ((i+1:Nat):Int),.ref ad])) T [.int ((i+1:Nat):Int),.ref ad]:=SqT.of upd_same
  generalize upd H3 T (.tup [.int ((i+1:Nat):Int),.ref ad])=H4 at t4 hT4
  have hD4:=t4.keep _ _ hD3 nmn
  refine ⟨T,_,rfl,hT4,rfl,_,_,rfl,_,_,rfl,⟨ad,_,rfl,t4.sqT hs',rfl,_,_,rfl,_,_,rfl,rfl,rfl,?_⟩⟩
  have d1:=r.1.deep_parts
  have d2:=r.2.deep_parts
  refine ⟨_,rfl,.inl ⟨rfl,_,SqL.of hD4⟩,_,rfl,_,rfl,_,rfl,k.n,"once",i+1,u1,r.1,rfl,GA.sb g1 t4,by omega,by omega,fun l1 v1 H5 s5 nl1 hl1 hb5=>?_⟩
  have hD5:=s5.keep _ _ hD4 nmn
  have v1l:=hb5.length
  rw [z20] at v1l
  refine ⟨D,l1,_,_,rfl,rfl,hD5,hl1,by omega,?_⟩
  have t6:=SB.set (ps:=[D]) hD5 (by simp) (.lst (ws++v1))
  have hb6:=Bears.append (((hb3.sb t4 Sx.noList_enc).sb s5 Sx.noList_enc).sb t6 Sx.noList_enc) (hb5.sb t6 Sx.noList_enc)
  have hD6:upd H5 D (.lst (ws++v1)) D=some (.lst (ws++v1)):=upd_same
  have s6:=((s3.trans t4.nil).trans s5.nil).trans t6
  have g2':=GA.sb (GA.sb g2 t4) s5
  have g2':=GA.sb g2' t6
  generalize upd H5 D (.lst (ws++v1))=H6 at t6 hb6 hD6 s6 g2'
  refine ⟨_,rfl,.inl ⟨rfl,_,SqL.of hD6⟩,_,rfl,_,rfl,_,rfl,k.n,"each",i+1,u2,r.2,rfl,g2',by omega,by omega,fun l2 v2 H7 s7 nl2 hl2 hb7=>?_⟩
  have hD7:=s7.keep _ _ hD6 nmn
  have v2l:=hb7.length
  rw [z20] at v2l
  refine ⟨D,l2,_,_,rfl,rfl,hD7,hl2,by rw [List.length_append]; omega,?_⟩
  have t8:=SB.set (ps:=[D]) hD7 (by simp) (.lst (ws++v1++v2))
  refine ⟨(s6.trans s7.nil).trans t8,_,_,_,_,rfl,upd_same,?_⟩
  rw [hsp]
  exact Bears.append ((hb6.sb s7 Sx.noList_enc).sb t8 Sx.noList_enc) (hb7.sb t8 Sx.noList_enc)
 ·obtain ⟨s3,ws,o3,o4,o5,rfl,hD3,hb3⟩:=h3
  rw [ul,<- zl,List.take_length] at hb3
  exact ⟨_,rfl,qk k eg D ws H3 ((t1.trans s2).nil.trans s3 |>.drop hD) hD hD3 hb3⟩
abbrev zea:List Str:=["name","rule","word","grove","place"]
theorem sc_q60:FnScope zea ["name","rule","word","grove"] (defScope z43):=⟨rfl,rfl,rfl,by decide +kernel,rfl,by decide +kernel,by decide +kernel⟩
theorem zhf {C_NoPlace:Addr} (B:BI mg) (G_q21:Got P w K mg base "all_places" ["grove"] (20) (z2w K 20)) (G_q62:GotX P w K mg base "tree_at" ["grove","place"] (2) (z3f K C_NoPlace)) (F:Fun K "steps_in" "steps_in" z43 f fd):FnOk P w K mg base CX0 (21) f fd ["name","rule","word","grove"] (z4o K):=by
 refine F.ok sc_q60 (fun vs H Q E h=>?_) (fun cdv A outer s H vs Q E hr h=>?_)
 ·obtain ⟨n,wd,i,v,g,rfl,_⟩:=h
  rfl
 obtain ⟨n,wd,i,v,g,rfl,hv,hd,hp,q⟩:=h
 have hun2:=hunT hr
 refine ⟨_,pss_one (ps_ret (pe_lc (own:=[("place",4)]) (g:=(gName 4)) (tt:=tYes) (te:=(tTup (tCons (tTup (tCons (tVar 0) (tCons (tVar 1) (tCons (tVar 2) (tCons (tVar 4) tNil))))) (tCons (tOp (rIxT K) (tCall (z3f K C_NoPlace) [] E0 (tCons (tVar 3) (tCons (tVar 4) tNil))) (tC (.int 0))) tNil)))) rfl sc_q60.nd (pi_list (z00 G_q21 (hr.mono (by omega)) rfl (pa_cons (pv 3) pa_nil))) (blkOk_by (N:=zea) (sc:=defScope z43) (by decide +kernel)) (fun _ _ _ _ _=>(pg_name (i:=4) sc_q60.nd rfl (.inl rfl))) (fun _ _ _ _ _=>pts_nil) (fun _ _ _ _ _=>(pe_tup (pa_cons (pe_tup (pa_cons (pv 0) (pa_cons (pv 1) (pa_cons (pv 2) (pa_cons (pv 4) pa_nil))))) (pa_cons (pe_ix ix_tup (z2v G_q62 (hr.mono (by omega)) rfl (pa_cons (pv 3) (pa_cons (pv 4) pa_nil))) pe_int (fun _ _=>rfl)) pa_nil)))))),?_⟩
 have szl:=sizeLine_eq
 have lenb:=g.ak_len 0
 refine ⟨_,rfl,v,g,rfl,hv,hd,by omega,by omega,fun D us H1 s1 nD hD hb=>?_⟩
 have vl:=hb.length
 rw [List.length_map] at vl
 refine ⟨D,rfl,⟨_,SqL.of hD⟩,fun L hL=>?_⟩
 refine z0f (walk_list (xs:=us)) hL (by omega) (fun j ws H2=>Bears K H2 Sx.enc ws (((g.ak 0).take j).map fun x:Pl × Str=>⟨n,i,wd,x.1,x.2⟩)) .nil (fun H2 s2=>s2.sqL nmn (SqL.of hD)) (fun _ _ _ _ e h=>h.sb e Sx.noList_enc) (fun Pv j z Hq H2 ws hj s2 yz hR hw fin _=>?_) (fun ws H2 s2 hL2 hR hw=>?_)
 ·obtain ⟨rfl,ez⟩:=yz
  obtain ⟨pl,epl,hpl⟩:=hb.get ez
  rw [List.getElem?_map] at epl
  obtain ⟨x,ex,rfl⟩:=Option.map_eq_some_iff.mp epl
  obtain ⟨pa,rfl,hpa⟩:=z9k hpl
  obtain ⟨n1,t,e1,e2⟩:=g.ak_place x (List.mem_of_getElem? ex)
  refine ⟨rfl,?_⟩
  refine ⟨_,rfl,_,rfl,_,rfl,_,rfl,(by show 4<=sizeLine; decide),fun T hT=>?_⟩
  have t3:=SB.new (ps:=[]) hT (.tup [.str n,.int (i:Int),.str wd,.ref pa])
  have s3:=s2.trans t3
  have hT3:SqT K (upd H2 T (.tup [.str n,.int (i:Int),.str wd,.ref pa])) T [.str n,.int (i:Int),.str wd,.ref pa]:=SqT.of upd_same
  generalize upd H2 T (.tup [.str n,.int (i:Int),.str wd,.ref pa])=H3 at t3 s3 hT3
  refine ⟨_,rfl,_,rfl,v,g,pa,_,plO x.1,rfl,hv.sb (s1.trans s3),s3.sqT hpa,Whs.pl K H3 x.1,fun t' _ et X H4 s4 hX=>?_,fun z=>?_⟩
  ·obtain rfl:t'=t:=Option.some.inj (et.symm.trans e1)
   cases (hX:Dp K H4 X (.tuple [.str t'.1,t'.2.enc])) with
   | tup hX1 hX2 =>
   cases hX2 with
   | cons k1 hX2 =>
   cases hX2 with
   | cons k2 hX2 =>
   cases hX2
   cases k1
   refine ⟨_,_,_,_,rfl,rfl,hX1,atI_nat (j:=0) rfl,(by show 2<=sizeLine; decide),fun T2 hT2=>?_⟩
   have t5:=SB.new (ps:=[]) hT2 (.tup [.ref T,.str t'.1])
   have s25:=(t3.trans s4).trans t5
   refine fin _ _ s25 ?_
   rw [List.take_add_one,ex,Option.toList_some,List.map_append]
   refine Bears.append (hR.sb s25 Sx.noList_enc) (.cons ?_ .nil)
   show Dp K _ _ (.tuple [.tuple [.str n,.int (i:Int),.str wd,z19 x.1],.str x.2])
   rw [<- e2]
   exact .tup (SqT.of upd_same) (.cons (.tup ((s4.trans t5).sqT hT3) (.cons (.str _) (.cons (.int _) (.cons (.str _) (.cons (z0e (s2.trans s25) _ _ (z0l _) hpl) .nil))))) (.cons (.str _) .nil))
  ·rcases z with z | z
   ·exact absurd z n1
   ·rw [e1] at z; cases z
 ·rw [vl,List.take_length] at hR
  exact q L ws H2 (s1.trans s2) (s1.dom L hL) hL2 hR
abbrev zf5:List Str:=["book","name","step","kind"]
theorem sc_q45:FnScope zf5 ["book","name"] (defScope z4g):=⟨rfl,rfl,rfl,by decide +kernel,rfl,by decide +kernel,by decide +kernel⟩
theorem zht {C_Book C_NoKind:Addr} (B:BI mg) (G_q61:GotX P w K mg base "steps_of" ["book","name"] (22) (z51 K C_Book C_NoKind)) (F:Fun K "leads" "leads" z4g f fd):FnOk P w K mg base (L2.CX P w) (23) f fd ["book","name"] (z5h K C_Book C_NoKind):=by
 refine F.okX sc_q45 (fun vs H Q E h=>?_) (fun cdv A outer s H vs Q E hr h=>?_)
 ·obtain ⟨v,b,n,rfl,_⟩:=h
  rfl
 obtain ⟨v,b,n,rfl,hv,ok,qk,qE⟩:=h
 have hun2:=hunT hr
 refine ⟨_,pss_one (ps_ret (pe_callB (z98 rfl) rfl B.sorted (by decide +kernel) (pa_cons (zil (own:=[("step",2),("kind",3)]) (g:=(gTup K 2 (gCons (gName 2) (gCons (gName 3) gNil)))) (tt:=tYes) (te:=(tVar 3)) rfl sc_q45.nd (pi_list (z34 G_q61 (hr.mono (by omega)) rfl (takes_of rfl rfl rfl rfl) (pa_cons (pv 0) (pa_cons (pv 1) pa_nil)))) (blkOk_by (N:=zf5) (sc:=defScope z4g) (by decide +kernel)) (fun _ _ _ _ _=>(pg_tup rfl (pgs_cons (pg_name (i:=2) sc_q45.nd rfl (.inl rfl)) (pgs_cons (pg_name (i:=3) sc_q45.nd rfl (.inl rfl)) pgs_nil)))) (fun _ _ _ _ _=>pts_nil) (fun _ _ _ _ _=>(pv 3))) pa_nil))),?_⟩
 have scb:1000 < scanBound:=by decide +kernel
 refine ⟨_,rfl,_,rfl,v,b,n,rfl,hv,ok,fun k eg ll us H1 s1 nll hll hbl=>?_,fun z d H' s' nd hd=>qE z d H' s' nd hd⟩
 obtain ⟨hk,rfl⟩:=Bk.get_some eg
 obtain ⟨kn,r4,rr⟩:=ok.kd k hk
 have stl:=Kd.steps_len r4 fun r hr=>(rr r hr).1
 have ul:=hbl.length
 refine ⟨ll,rfl,⟨_,SqL.of hll⟩,fun D nD=>?_⟩
 refine zi4 (walk_list (xs:=us)) nD (by omega) (fun i ss H2=>ss.Nodup/\∀ x,x ∈ ss ↔ x ∈ (k.steps.take i).map Sx.k) ⟨List.nodup_nil,by simp⟩ (fun H2 s2=>s2.sqL nmn (SqL.of hll)) (fun _ _ _ _ _ h=>h) (fun Pv i x Hq H2 ss hi s2 y hR hl fin _=>?_) (fun ss H2 s2 hD2 hR hl=>?_)
 ·obtain ⟨rfl,ey⟩:=y
  obtain ⟨st,es,hst⟩:=hbl.get ey
  cases (hst:Dp K H1 x (.tuple [st.st,.str st.k])) with
  | @tup ad us' _ hs' hda =>
  cases hda with
  | cons g1 hda =>
  cases hda with
  | cons g2 hda =>
  cases hda
  cases g2
  refine ⟨ad,_,rfl,s2.sqT hs',rfl,_,_,rfl,_,_,rfl,rfl,rfl,?_⟩
  refine ⟨_,rfl,fin st.k _ SB.refl ⟨zah hR.1,fun x=>?_⟩⟩
  rw [zch,hR.2,List.take_add_one,es,List.map_append,List.mem_append]
  simp [or_comm]
 ·rw [ul,List.take_length,Kd.steps_kinds] at hR
  refine ⟨D,ss,rfl,hD2,by omega,fun ss' p pm srt np=>?_⟩
  have t3:=SB.new (ps:=[]) np (.lst (ss'.map V.str))
  exact qk k eg p ss' _ ((s1.trans s2).trans t3) ((s1.trans s2).dom _ np) upd_same (SrtOf.perm pm srt hR.1 hR.2)
abbrev zen:List Str:=["book","led","ending","fresh","name"]
theorem sc_q29:FnScope zen ["book"] (defScope z4i):=⟨rfl,rfl,rfl,by decide +kernel,rfl,by decide +kernel,by decide +kernel⟩
theorem zhn {C_Book C_NoKind:Addr} (B:BI mg) (G_q1:GotM P w K mg base C_Book "names" ["self"] (1) (z1k K C_Book)) (G_q45:GotX P w K mg base "leads" ["book","name"] (23) (z5h K C_Book C_NoKind)) (G_q44:Got P w K mg base "lead_into" ["led","ending"] (1) (z4e K)) (F:Fun K "ending_kinds" "ending_kinds" z4i f fd):FnOk P w K mg base CX0 (24) f fd ["book"] (z2m K C_Book C_NoKind):=by
 refine F.ok sc_q29 (fun vs H Q E h=>?_) (fun cdv A outer s H vs Q E hr h=>?_)
 ·obtain ⟨v,b,rfl,_⟩:=h
  rfl
 obtain ⟨v,b,rfl,hv,ok,q⟩:=h
 have hun2:=hunT hr
 refine ⟨_,pss_cons (zce (i:=1) (own:=[("name",4)]) (g:=(gName 4)) (tt:=tYes) (tk:=(tVar 4)) (tv:=(tCall (z5h K C_Book C_NoKind) [] E0 (tCons (tVar 0) (tCons (tVar 4) tNil)))) rfl sc_q29.nd rfl rfl (zcx rfl rfl rfl (by decide +kernel)) (pi_list (z3l G_q1 (hr.mono (by omega)) (pv 0))) (blkOk_by (N:=zen) (sc:=defScope z4i) (by decide +kernel)) (fun _ _ _ _ _=>(pg_name (i:=4) sc_q29.nd rfl (.inl rfl))) (fun _ _ _ _ _=>pts_nil) (fun _ _ _ _ _=>(pv 4)) (fun _ _ _ _ _=>(z2v G_q45 (hr.mono (by omega)) rfl (pa_cons (pv 0) (pa_cons (pv 4) pa_nil)))))
  (pss_cons (ps_set (i:=2) sc_q29.nd rfl (.inl rfl) (pe_lst pa_nil))
  (pss_cons (ps_set (i:=3) sc_q29.nd rfl (.inl rfl) (z00 G_q44 (hr.mono (by omega)) rfl (pa_cons (pv 1) (pa_cons (pv 2) pa_nil))))
  (pss_cons (ps_while PassesOwn.never (pt_truth (pv 3) (by intro _; rfl)) (pss_cons (ps_expr (pe_bm PySem.F.plainAttrs_list PySem.F.slot_list_extend PySem.F.type_list_extend mt_extend (pv 2) (pa_cons (pv 3) pa_nil)))
  (pss_one (ps_set (i:=3) sc_q29.nd rfl (.inl rfl) (z00 G_q44 (hr.mono (by omega)) rfl (pa_cons (pv 1) (pa_cons (pv 2) pa_nil)))))))
  (pss_one (ps_ret (pv 2)))))),?_⟩
 have szl:=sizeLine_eq
 have b8:=ok.len
 have nml:b.names.length=b.length:=List.length_map ..
 obtain ⟨va,vdx,vd1,vd2,rfl,hva⟩:=hv.at
 refine ⟨_,rfl,va,vdx,_,rfl,hva,rfl,?_⟩
 refine ⟨_,b,rfl,hv,by omega,fun nl H1 s1 nn hn=>?_⟩
 refine ⟨nl,rfl,⟨_,SqL.of hn⟩,fun D nD=>?_⟩
 refine zfv (walk_list (xs:=b.names.map V.str)) nD (by rw [List.length_map]; omega) (fun i kvs H2=>LedAll K H2 kvs (b.take i)/\∀ p ∈ kvs,p.2 ≠ .ref D) ⟨.nil,by simp⟩ (fun H2 s2=>s2.sqL nmn (SqL.of hn)) (fun i kvs H2 H3 s3 ⟨h1,h2⟩=>⟨h1.sb s3 fun p hp q hq=>by rw [List.mem_singleton.mp hq]; exact h2 p hp,h2⟩) (fun Pv i x Hq H2 kvs hi s2 y hR hl hD2 fin _=>?_) (fun kvs H2 s2 hD2 hR hl=>?_)
 ·obtain ⟨rfl,ey⟩:=y
  rw [List.getElem?_map] at ey
  obtain ⟨n,en,rfl⟩:=Option.map_eq_some_iff.mp ey
  rw [List.getElem?_map] at en
  obtain ⟨k,ek,rfl⟩:=Option.map_eq_some_iff.mp en
  have km:=List.mem_of_getElem? ek
  have eg:=Bk.get_self ok.nd km
  obtain ⟨h1,h2⟩:=hR
  have hnew:∀ p ∈ kvs,p.1 ≠ Sum.inr k.n:=fun p hp z=>by
   have h3:p.1 ∈ (Bk.names (b.take i)).map (Sum.inr (α:=Int)):=by rw [<- h1.keys]; exact List.mem_map.mpr ⟨p,hp,rfl⟩
   rw [z] at h3
   obtain ⟨m,hm,e⟩:=List.mem_map.mp h3
   have e:=Sum.inr.inj e
   subst e
   exact zal ok.nd ek hm
  refine ⟨rfl,_,rfl,_,rfl,_,rfl,_,b,k.n,rfl,(hv.sb0 s1).sb0 s2,ok,fun k' e' l ss H3 s3 nl' hl' so=>?_,fun z=>by rw [eg] at z; cases z⟩
  rw [eg] at e'
  cases e'
  refine fin (Sum.inr k.n) (.ref l) H3 s3 ?_
  rw [z1i hnew,List.take_add_one,ek]
  refine ⟨(h1.sb s3 (by simp)).append (.cons hl' so .nil),fun p hp=>?_⟩
  rcases List.mem_append.mp hp with hp | hp
  ·exact h2 p hp
  ·rw [List.mem_singleton.mp hp]
   intro z
   rw [V.ref.inj z,hD2] at nl'
   cases nl'
 obtain ⟨hk,hkD⟩:=hR
 rw [List.length_map,nml,List.take_length] at hk
 have s12:=s1.trans s2
 refine ⟨by show 0<=sizeLine; decide,fun E nE=>?_⟩
 have t3:=SB.new (ps:=[]) nE (.lst [])
 have hE3:upd H2 E (.lst []) E=some (.lst []):=upd_same
 have hkE:=hk.ne nE
 have hD3:=t3.keep _ _ hD2 nmn
 have hk3:=hk.sb t3 (by simp)
 have s03:=s12.trans t3
 have nE0:H E=none:=s12.dom _ nE
 have DE:D ≠ E:=ne_of_none hD2 nE
 generalize upd H2 E (.lst [])=H3 at t3 hE3 hD3 hk3 s03
 refine ⟨_,rfl,_,rfl,D,E,b,[],kvs,rfl,hD3,hk3,hE3,ok,fun F H4 s4 nF hF=>?_⟩
 refine z0d ⟨fun m σ H5=>∃ (es:List Str) (F:Addr),m=9-es.length/\σ=[some (.ref va),some (.ref D),some (.ref E),some (.ref F),none]/\SB [] H H5/\H5 D=some (.dK kvs)/\LedAll K H5 kvs b/\H5 E=some (.lst (es.map V.str))/\H5 F=some (.lst ((b.names.filter (into b es)).map V.str))/\F ≠ E/\es.Nodup/\(∀ n ∈ es,n ∈ b.names)/\(∀ n ∈ es,EndK b n)/\∀ (i:Nat) (n:Str),es[i]?=some n->∀ k ∈ adj b n,k ∈ es.take i,
  ⟨9,[],F,rfl,rfl,s03.trans s4,s4.keep _ _ hD3 nmn,hk3.sb s4 (by simp),s4.keep _ _ hE3 nmn,hF,(fun z=>by rw [z,hE3] at nF; cases nF),List.nodup_nil,by simp,by simp,by simp⟩,fun m σ H5 hW=>?_⟩
 obtain ⟨es,F,rfl,rfl,s5,hD5,hk5,hE5,hF5,FE,nd,sub,ends,ord⟩:=hW
 have fl:=List.length_filter_le (into b es) b.names
 have esl:es.length<=8:=by
  have:=nd.length_le_of_subset (l₂:=b.names) sub
  omega
 refine ⟨_,rfl,_,.inl ⟨_,SqL.of hF5,rfl⟩,?_⟩
 by_cases hf:b.names.filter (into b es)=[]
 ·rw [hf]
  refine iteF ⟨_,rfl,q E es H5 s5 nE0 hE5 ⟨nd,esl,fun n=>⟨fun h=>⟨sub n h,ends n h⟩,fun h=>zar ok hf h.2 h.1⟩,ord⟩⟩
 ·rw [show (!((b.names.filter (into b es)).map V.str).isEmpty)=true by
   cases h:b.names.filter (into b es) with
   | nil=>exact absurd h hf
   | cons _ _=>rfl]
  refine iteT ⟨_,fun σ' H' h=>h,?_⟩
  refine ⟨_,rfl,.inl ⟨rfl,_,SqL.of hE5⟩,_,rfl,E,F,_,_,rfl,rfl,hE5,hF5,by rw [List.length_map,List.length_map]; omega,?_⟩
  rw [<- List.map_append]
  have t6:=SB.set (ps:=[E]) hE5 (by simp) (.lst ((es++b.names.filter (into b es)).map V.str))
  have hE6:upd H5 E (.lst ((es++b.names.filter (into b es)).map V.str)) E=some (.lst ((es++b.names.filter (into b es)).map V.str)):=upd_same
  have hD6:=t6.keep _ _ hD5 (by simpa using DE)
  have hk6:=hk5.sb t6 fun p hp q hq=>by rw [List.mem_singleton.mp hq]; exact hkE p hp
  have s6:SB [] H (upd H5 E (.lst ((es++b.names.filter (into b es)).map V.str))):=((s5.nil (ps:=[E])).trans t6).drop nE0
  generalize upd H5 E (.lst ((es++b.names.filter (into b es)).map V.str))=H6 at t6 hE6 hD6 hk6 s6
  refine ⟨_,rfl,_,rfl,D,E,b,es++b.names.filter (into b es),kvs,rfl,hD6,hk6,hE6,ok,fun F2 H7 s7 nF2 hF2=>?_⟩
  have hpos:0 < (b.names.filter (into b es)).length:=List.length_pos_iff.mpr hf
  refine ⟨9-(es++b.names.filter (into b es)).length,by rw [List.length_append]; omega,es++b.names.filter (into b es),F2,rfl,rfl,s6.trans s7,s7.keep _ _ hD6 nmn,hk6.sb s7 (by simp),s7.keep _ _ hE6 nmn,hF2,(fun z=>by rw [z,hE6] at nF2; cases nF2),?_,fun n hn=>?_,fun n hn=>?_,fun i n ei k hk=>?_⟩
  ·refine List.nodup_append.mpr ⟨nd,ok.nd.filter _,fun x hx y hy e=>?_⟩
   subst e
   have:=(List.mem_filter.mp hy).2
   unfold into at this
   rw [Bool.and_eq_true,decide_eq_true_eq] at this
   exact this.1 hx
  ·rcases List.mem_append.mp hn with h | h
   ·exact sub n h
   ·exact (List.mem_filter.mp h).1
  ·rcases List.mem_append.mp hn with h | h
   ·exact ends n h
   ·have:=(List.mem_filter.mp h).2
    unfold into at this
    rw [Bool.and_eq_true,List.all_eq_true] at this
    exact .mk fun k hk=>ends k (of_decide_eq_true (this.2 k hk))
  ·rcases Nat.lt_or_ge i es.length with hi | hi
   ·rw [List.getElem?_append_left hi] at ei
    rw [List.take_append_of_le_length (by omega)]
    exact ord i n ei k hk
   ·rw [List.getElem?_append_right hi] at ei
    have:=(List.mem_filter.mp (List.mem_of_getElem? ei)).2
    unfold into at this
    rw [Bool.and_eq_true,List.all_eq_true] at this
    have h3:=of_decide_eq_true (this.2 k hk)
    rw [List.take_append,List.take_of_length_le hi]
    exact mal _ h3
abbrev zac:List Str:=["led","ending","name","kind"]
theorem sc_q44:FnScope zac ["led","ending"] (defScope z3w):=⟨rfl,rfl,rfl,by decide +kernel,rfl,by decide +kernel,by decide +kernel⟩
theorem zgn (B:BI mg) (F:Fun K "lead_into" "lead_into" z3w f fd):FnOk P w K mg base CX0 (1) f fd ["led","ending"] (z4e K):=by
 refine F.ok sc_q44 (fun vs H Q E h=>?_) (fun cdv A outer s H vs Q E hr h=>?_)
 ·obtain ⟨d,e,b,es,kvs,rfl,_⟩:=h
  rfl
 obtain ⟨d,e,b,es,kvs,rfl,hd,hk,he,ok,q⟩:=h
 have hun2:=hunT hr
 refine ⟨_,pss_one (ps_ret (pe_lock (pe_lc (own:=[("name",2)]) (g:=(gName 2)) (tt:=(tAnd (tTest (tOp (rIn K true) (tVar 2) (tVar 1))) (tB (tCB (rAll K) (tCons (tLc (iList K (tDGet (tVar 0) (tVar 2))) (gName 3) tYes (tOp (rIn K false) (tVar 3) (tVar 1)) [3]) tNil))))) (te:=(tVar 2)) rfl sc_q44.nd (pi_keys (pv 0)) (blkOk_by (N:=zac) (sc:=defScope z3w) (by decide +kernel)) (fun _ _ _ _ _=>(pg_name (i:=2) sc_q44.nd rfl (.inl rfl))) (fun _ _ _ _ _=>(pts_one (PW.pt (pw_and (pt_cmpR op_notIn_seq (pv 2) (pv 1) (by rfl)) (pw_and1 (pt_val (pe_callB (cr_all rfl) rfl B.all boot_all (pa_cons (pe_lc (own:=[("kind",3)]) (g:=(gName 3)) (tt:=tYes) (te:=(tOp (rIn K false) (tVar 3) (tVar 1))) rfl sc_q44.nd (pi_list (pe_dget (by show A.units+3+1 < cLine; omega) (pv 0) (pv 2) (fun _ _=>rfl))) (blkOk_by (N:=zac) (sc:={ kind:=.function,names:=[(".0",.local),("name",.local),("all",.globalImplicit),("ending",.cell),("led",.cell)],isGenerator:=false,isCoroutine:=false }) (by decide +kernel)) (fun _ _ _ _ _=>(pg_name (i:=3) sc_q44.nd rfl (.inl rfl))) (fun _ _ _ _ _=>pts_nil) (fun _ _ _ _ _=>(pe_cmpR op_in_seq (pv 3) (pv 1) (by rfl)))) pa_nil)))))))) (fun _ _ _ _ _=>(pv 2))))),?_⟩
 have szl:=sizeLine_eq
 have b8:=ok.len
 have kl:=hk.length
 refine ⟨d,_,hd,trivial,fun od=>?_⟩
 have hL:∀ l xs,H l=some (.lst xs)->upd H d (.frz od (.dK kvs)) l=some (.lst xs):=fun l xs h=>by rw [upd_ne (fun z=>by rw [z,hd] at h; cases h)]; exact h
 have hkL:=hk.keep hL
 have heL:=hL _ _ he
 have hdL:upd H d (.frz od (.dK kvs)) d=some (.frz od (.dK kvs)):=upd_same
 have un:∀ H',SB [] (upd H d (.frz od (.dK kvs))) H'->SB [] H (upd H' d (.dK kvs)):=fun H' s=>s.unlock hd (fun _ z=>nomatch z) (fun _ _ z=>nomatch z)
 have dm:∀ p,upd H d (.frz od (.dK kvs)) p=none->H p=none:=fun p h=>by
  have z:p ≠ d:=fun z=>by rw [z,upd_same] at h; cases h
  rwa [upd_ne z] at h
 generalize upd H d (.frz od (.dK kvs))=HL at hkL heL hdL un dm
 refine ⟨_,rfl,d,od,rfl,.inl ⟨kvs,hdL,fun D nD=>?_⟩⟩
 refine z0f walk_keys nD (by omega) (fun i us _=>us=((b.names.take i).filter (into b es)).map V.str) rfl (fun H2 s2=>s2.frzs _ _ _ hdL) (fun _ _ _ _ _ h=>h) (fun Pv i x Hq H2 us hi s2 y hR hu fin skip=>?_) (fun us H2 s2 hD2 hR hu=>?_)
 ·obtain ⟨rfl,k0,v0,ek,rfl⟩:=y
  obtain ⟨kd,ekd,e0⟩:=hk.get ek
  have e0:k0=Sum.inr kd.n:=e0
  subst e0
  have km:=List.mem_of_getElem? ekd
  have ea:=z0p ok km
  obtain ⟨l,ss,hv,hl,so⟩:=hkL.val (Bk.get_self ok.nd km)
  have en:b.names[i]?=some kd.n:=by rw [List.getElem?_map,ekd]; rfl
  have he2:=s2.keep _ _ heL nmn
  have hl2:=s2.keep _ _ hl nmn
  have hd2:=s2.frzs _ _ _ hdL
  have hstep:((b.names.take (i+1)).filter (into b es)).map V.str=((b.names.take i).filter (into b es)).map V.str++(if into b es kd.n=true then [V.str kd.n] else []):=by
   rw [List.take_add_one,en,List.filter_append,List.map_append]
   congr 1
   by_cases z:into b es kd.n=true
   ·simp [z]
   ·simp [z]
  refine ⟨rfl,_,rfl,_,rfl,e,_,rfl,.inl (SqL.of he2),rfl,z0r _,_,rfl,?_⟩
  rw [if_pos rfl]
  show if (!inV (.str kd.n) (es.map V.str))=true then _ else _
  rw [z11]
  by_cases h1:kd.n ∈ es
  ·rw [show (!decide (kd.n ∈ es))=false by simp [h1]]
   refine iteF (skip _ SB.refl ?_)
   rw [hstep,show into b es kd.n=false by simp [into,h1],hR]; simp
  ·rw [show (!decide (kd.n ∈ es))=true by simp [h1]]
   refine iteT ?_
   have sl:ss.length < 1000:=by
    have h2:=so.nd.length_le_of_subset (l₂:=b.names) fun x hx=>ok.led km x ((so.mem x).mp hx)
    rw [List.length_map] at h2
    omega
   refine ⟨_,rfl,_,rfl,d,.ref l,rfl,zj8 (.inr ⟨_,hd2⟩) hv,l,rfl,⟨_,SqL.of hl2⟩,fun D2 nD2=>?_⟩
   refine z0f (walk_list (xs:=ss.map V.str)) nD2 (by rw [List.length_map]; omega) (fun j us _=>us=((ss.take j).map fun k=>decide (k ∈ es)).map V.bl) rfl (fun H4 s4=>s4.sqL nmn (SqL.of hl2)) (fun _ _ _ _ _ h=>h) (fun Pv j z Hq H4 us4 hj s4 y hR4 hu4 fin4 _=>?_) (fun us4 H4 s4 hD4 hR4 hu4=>?_)
   ·obtain ⟨rfl,ez⟩:=y
    rw [List.getElem?_map] at ez
    obtain ⟨sx,ex,rfl⟩:=Option.map_eq_some_iff.mp ez
    refine ⟨rfl,_,rfl,_,rfl,e,_,rfl,.inl (SqL.of (s4.keep _ _ he2 nmn)),rfl,z0r _,?_⟩
    refine fin4 _ _ SB.refl ?_
    rw [hR4,List.take_add_one,ex]
    simp [z11]
   ·subst hR4
    refine ⟨D2,_,rfl,SqL.of hD4,_,rfl,?_⟩
    have eall:((ss.take (ss.map V.str).length).map fun k=>decide (k ∈ es)).all id=(adj b kd.n).all fun k=>decide (k ∈ es):=by
     rw [List.length_map,List.take_length,List.all_map,ea,<- zfl so]; rfl
    rw [eall]
    have ei:into b es kd.n=(adj b kd.n).all fun k=>decide (k ∈ es):=by unfold into; simp [h1]
    by_cases h3:((adj b kd.n).all fun k=>decide (k ∈ es))=true
    ·rw [h3]
     refine iteT ⟨_,rfl,fin _ _ s4 ?_⟩
     rw [hstep,ei,h3,hR]; rfl
    ·have h3:((adj b kd.n).all fun k=>decide (k ∈ es))=false:=by simpa using h3
     rw [h3]
     refine iteF (skip _ s4 ?_)
     rw [hstep,ei,h3,hR]; simp
 ·subst hR
  have hd2:=s2.frzs _ _ _ hdL
  have Dd:D ≠ d:=fun z=>by rw [z,hdL] at nD; cases nD
  refine ⟨hd2,q D _ (un _ s2) (dm _ nD) ?_⟩
  rw [upd_ne Dd,hD2,kl,<- show b.names.length=b.length from List.length_map ..,List.take_length]
abbrev ze1:List Str:=["book","ending","name"]
theorem sc_q30:FnScope ze1 ["book"] (defScope z3x):=⟨rfl,rfl,rfl,by decide +kernel,rfl,by decide +kernel,by decide +kernel⟩
theorem zir {C_Book C_NoKind:Addr} (B:BI mg) (G_q29:Got P w K mg base "ending_kinds" ["book"] (24) (z2m K C_Book C_NoKind)) (G_q1:GotM P w K mg base C_Book "names" ["self"] (1) (z1k K C_Book)) (F:Fun K "endless_kinds" "endless_kinds" z3x f fd):FnOk P w K mg base CX0 (25) f fd ["book"] (z4x K C_Book C_NoKind):=by
 refine F.ok sc_q30 (fun vs H Q E h=>?_) (fun cdv A outer s H vs Q E hr h=>?_)
 ·obtain ⟨v,b,rfl,_⟩:=h
  rfl
 obtain ⟨v,b,rfl,hv,ok,q⟩:=h
 have hun2:=hunT hr
 refine ⟨_,pss_cons (ps_set (i:=1) sc_q30.nd rfl (.inr rfl) (z00 G_q29 (hr.mono (by omega)) rfl (pa_cons (pv 0) pa_nil)))
  (pss_one (ps_ret (pe_callB cr_sortedS rfl B.sorted (by decide +kernel) (pa_cons (pe_lc (own:=[("name",2)]) (g:=(gName 2)) (tt:=(tTest (tOp (rIn K true) (tVar 2) (tVar 1)))) (te:=(tVar 2)) rfl sc_q30.nd (pi_list (z3l G_q1 (hr.mono (by omega)) (pv 0))) (blkOk_by (N:=ze1) (sc:=defScope z3x) (by decide +kernel)) (fun _ _ _ _ _=>(pg_name (i:=2) sc_q30.nd rfl (.inl rfl))) (fun _ _ _ _ _=>(pts_one (pt_cmpR op_notIn_seq (pv 2) (pv 1) (by rfl)))) (fun _ _ _ _ _=>(pv 2))) pa_nil)))),?_⟩
 have szl:=sizeLine_eq
 have b8:=ok.len
 refine ⟨_,rfl,v,b,rfl,hv,ok,fun l es H1 s1 nl hl eo=>?_⟩
 have el:=eo.len
 have hm:∀ n ∈ b.names,n ∈ es ↔ EndK b n:=fun n hn=>⟨fun h=>((eo.mem n).mp h).2,fun h=>(eo.mem n).mpr ⟨hn,h⟩⟩
 obtain ⟨va,vdx,vd1,vd2,rfl,hva⟩:=hv.at
 refine ⟨_,rfl,va,vdx,_,rfl,s1.keep _ _ hva nmn,rfl,?_⟩
 refine ⟨_,b,rfl,hv.sb0 s1,by omega,fun nl2 H2 s2 nn hn=>?_⟩
 have hl2:=s2.keep _ _ hl nmn
 refine ⟨nl2,rfl,⟨_,SqL.of hn⟩,fun D nD=>?_⟩
 have nml:b.names.length=b.length:=List.length_map ..
 refine z0f (walk_list (xs:=b.names.map V.str)) nD (by rw [List.length_map]; omega) (fun i us _=>us=((b.names.take i).filter fun n=>decide (n ∉ es)).map V.str) rfl (fun H3 s3=>s3.sqL nmn (SqL.of hn)) (fun _ _ _ _ _ h=>h) (fun Pv i x Hq H3 us hi s3 y hR hu fin skip=>?_) (fun us H3 s3 hD3 hR hu=>?_)
 ·obtain ⟨rfl,ey⟩:=y
  rw [List.getElem?_map] at ey
  obtain ⟨n,en,rfl⟩:=Option.map_eq_some_iff.mp ey
  refine ⟨rfl,_,rfl,_,rfl,l,_,rfl,.inl (SqL.of (s3.keep _ _ hl2 nmn)),rfl,z0r _,_,rfl,?_⟩
  rw [if_pos rfl,z11]
  have hstep:((b.names.take (i+1)).filter fun n=>decide (n ∉ es)).map V.str=((b.names.take i).filter fun n=>decide (n ∉ es)).map V.str++(if n ∉ es then [V.str n] else []):=by
   rw [List.take_add_one,en,List.filter_append,List.map_append]
   congr 1
   by_cases z:n ∈ es
   ·simp [z]
   ·simp [z]
  by_cases h1:n ∈ es
  ·rw [show (!decide (n ∈ es))=false by simp [h1]]
   refine iteF (skip _ SB.refl ?_)
   rw [hstep,if_neg (by simp [h1]),hR]; simp
  ·rw [show (!decide (n ∈ es))=true by simp [h1]]
   refine iteT ⟨_,rfl,fin _ _ SB.refl ?_⟩
   rw [hstep,if_pos h1,hR]
 ·rw [List.length_map,List.take_length] at hR
  subst hR
  refine ⟨D,_,rfl,SqL.of hD3,?_,fun ys p pm srt np=>?_⟩
  ·have:=List.length_filter_le (fun n=>decide (n ∉ es)) b.names
   omega
  have s03:=(s1.trans s2).trans s3
  refine q p ys _ (s03.trans (SB.new (ps:=[]) np _)) (s03.dom _ np) upd_same srt (pm.nodup_iff.mpr (ok.nd.filter _)) fun n=>?_
  rw [pm.mem_iff,List.mem_filter]
  simp only [decide_eq_true_eq]
  exact ⟨fun ⟨h1,h2⟩=>⟨h1,fun z=>h2 ((hm n h1).mpr z)⟩,fun ⟨h1,h2⟩=>⟨h1,fun z=>h2 ((hm n h1).mp z)⟩⟩
end
section
variable {P:Program} {w:World} {K:PySem.W.Frag} {mg:Str->Option Value} {base:Heap} {f:Addr} {fd:FuncData} {ps:List Addr}
theorem zim:FnScope ["many"] ["many"] (defScope z5i):=⟨rfl,rfl,rfl,by decide +kernel,rfl,by decide +kernel,by decide +kernel⟩
theorem zhz (F:Fun K "number" "number" z5i f fd):FnOk P w K mg base CX0 1 f fd ["many"] (z2c K):=by
 refine F.ok zim (fun vs H Q E h=>?_) (fun cdv A outer s H vs Q E hr h=>?_)
 ·obtain ⟨v,rfl,_⟩:=h
  rfl
 obtain ⟨i,rfl,q⟩:=h
 refine ⟨_,pss_cons (ps_if (pt_cmpR op_eq (pv 0) pe_int (nomark _)) (pss_one (ps_ret (pe_tup pa_nil))) pss_nil)
  (pss_one (ps_ret (pe_tup (pa_cons (pe_tup (pa_cons (pe_tup pa_nil) (pa_cons (pv 0) pa_nil))) pa_nil)))),?_⟩
 refine ⟨_,rfl,rfl,_,rfl,?_⟩
 refine ite2 (fun c=>?_) (fun c=>?_)
 ·have c':V.int i=V.int 0:=of_decide_eq_true c
  injection c' with c'
  subst c'
  refine ⟨(by show 0<=sizeLine; decide),fun p hp=>?_⟩
  exact q _ _ (SB.new hp _) (z18 (SqT.of upd_same))
 ·have c':¬ V.int i=V.int 0:=of_decide_eq_false (Bool.eq_false_iff.mpr c)
  have c2:¬ i=0:=fun z=>c' (by rw [z])
  refine ⟨(by show 0<=sizeLine; decide),fun p1 h1=>?_⟩
  refine ⟨_,rfl,(by show 2<=sizeLine; decide),fun p2 h2=>?_⟩
  refine ⟨(by show 1<=sizeLine; decide),fun p3 h3=>?_⟩
  have e1:SB [] H (upd H p1 (.tup [])):=SB.new h1 _
  have e2:=SB.new (ps:=[]) h2 (.tup [.ref p1,.int i])
  have e3:=SB.new (ps:=[]) h3 (.tup [.ref p2])
  refine q _ _ (e1.trans (e2.trans e3)) ?_
  have e:Lad.num i=.cons .nil i .nil:=if_neg c2
  rw [e]
  exact zay (SqT.of upd_same) (e3.sqT (SqT.of upd_same)) ((z18 (SqT.of upd_same)).sb (e2.trans e3))
end
section
variable {P:Program} {w:World} {K:PySem.W.Frag} {mg:Str->Option Value} {base:Heap} {f:Addr} {fd:FuncData} {ps:List Addr}
theorem ziz:FnScope ["one","other"] ["one","other"] (defScope z3t):=⟨rfl,rfl,rfl,by decide +kernel,rfl,by decide +kernel,by decide +kernel⟩
theorem zhl (F:Fun K "is_less" "is_less" z3t f fd):FnOk P w K mg base CX0 1 f fd ["one","other"] (z1t K):=by
 refine F.ok ziz (fun vs H Q E h=>?_) (fun cdv A outer s H vs Q E hr h=>?_)
 ·obtain ⟨v,u,l,k,rfl,_⟩:=h
  rfl
 obtain ⟨v,u,l,k,rfl,hv,hu,hd,q⟩:=h
 refine ⟨_,pss_one (ps_ret (pe_cmpR (zb6 (by have:=hr.un; show A.units+3+100 < cLine; have h3:(A.deeper (envOfC "is_less" (defScope z3t) s.heap.objs.size f cdv)).units=A.units+3:=rfl; omega)) (pv 0) (pv 1) (nomark _))),?_⟩
 have:=l.enc_depth
 exact ⟨_,rfl,_,rfl,l.enc,k.enc,hv,hu,l.alike_enc k,l.enc_ne,by omega,q⟩
end
section
variable {P:Program} {w:World} {K:PySem.W.Frag} {mg:Str->Option Value} {base:Heap} {f:Addr} {fd:FuncData}
abbrev zjx:List Str:=["book","name"]
theorem zhd:FnScope zjx ["book","name"] (defScope z5l):=⟨rfl,rfl,rfl,by decide +kernel,rfl,by decide +kernel,by decide +kernel⟩
theorem zgo {C_NO_GROVES C_Book C_NoKind:Addr} (B:BI mg) (V_NO_GROVES:mg "NO_GROVES"=some (.ref C_NO_GROVES)) (W_NO_GROVES:∀ H,Dp K H (.ref C_NO_GROVES) (Ru.enc (.nil,.nil))) (G_q2:z4f P w K mg base C_Book "rules" ["self","name"] (4) (z3p K C_Book C_NoKind)) (F:Fun K "rules_from_nought" "rules_from_nought" z5l f fd):FnOk P w K mg base (L2.CX P w) (5) f fd ["book","name"] (z6n K C_Book C_NoKind):=by
 refine F.okX zhd (fun vs H Q E h=>?_) (fun cdv A outer s H vs Q E hr h=>?_)
 ·obtain ⟨v,b,n,rfl,_⟩:=h
  rfl
 obtain ⟨v,b,n,rfl,hb,hl,hr4,qk,qE⟩:=h
 have hun2:=hunT hr
 refine ⟨_,pss_one (ps_ret (pe_op op_cat (pe_lst (pa_cons (pe_glob (v:=.ref C_NO_GROVES) rfl V_NO_GROVES rfl) pa_nil)) (z8g G_q2 (hr.mono (by omega)) (takes_of rfl rfl rfl rfl) (pv 0) (pa_cons (pv 1) pa_nil)))),?_⟩
 have szl:=sizeLine_eq
 obtain ⟨va,vdx,vd1,vd2,rfl,hva⟩:=hb.at
 refine ⟨by show 1<=sizeLine; decide,fun L hL=>?_⟩
 have t1:=SB.new (ps:=[]) hL (.lst [.ref C_NO_GROVES])
 have hL1:upd H L (.lst [.ref C_NO_GROVES]) L=some (.lst [.ref C_NO_GROVES]):=upd_same
 generalize upd H L (.lst [.ref C_NO_GROVES])=H1 at t1 hL1
 refine ⟨_,rfl,va,vdx,_,rfl,t1.keep _ _ hva nmn,rfl,_,rfl,_,b,n,rfl,hb.sb0 t1,hl,hr4,fun k eg ll us H2 s2 nll hll hbl=>?_,fun z d H' s' nd hd=>qE z d H' (t1.trans s') (t1.dom d nd) hd⟩
 have k4:=hr4 k (Bk.get_some eg).1
 have ul:=hbl.length
 refine ⟨L,ll,_,_,rfl,rfl,s2.keep _ _ hL1 nmn,hll,by show 1+_<=sizeLine; omega,fun M hM=>?_⟩
 have t3:=SB.new (ps:=[]) hM (.lst ([.ref C_NO_GROVES]++us))
 have s3:=t1.trans s2
 exact qk k eg M _ _ (s3.trans t3) (s3.dom _ hM) upd_same (.cons (W_NO_GROVES _) (hbl.sb t3 Ru.noList_enc))
abbrev zjr:List Str:=["book","name"]
theorem zho:FnScope zjr ["book","name"] (defScope z5u):=⟨rfl,rfl,rfl,by decide +kernel,rfl,by decide +kernel,by decide +kernel⟩
theorem zie {C_NoKind C_Book:Addr} (B:BI mg) (O_NoKind:OwnI P w K mg base "NoKind" C_NoKind 1) (G_q1:GotM P w K mg base C_Book "names" ["self"] (1) (z1k K C_Book)) (F:Fun K "check_kind" "check_kind" z5u f fd):FnOk P w K mg base (L2.CX P w) (3) f fd ["book","name"] (z28 K C_Book C_NoKind):=by
 refine F.okX zho (fun vs H Q E h=>?_) (fun cdv A outer s H vs Q E hr h=>?_)
 ·obtain ⟨v,b,n,rfl,_⟩:=h
  rfl
 obtain ⟨v,b,n,rfl,hb,hl,qk,qE⟩:=h
 have hun2:=hunT hr
 refine ⟨_,pss_one (ps_if (pt_cmpR op_notIn_seq (pv 1) (z3l G_q1 (hr.mono (by omega)) (pv 0)) (by rfl)) (pss_one (ps_raise rfl (takes_of rfl rfl rfl rfl) (z6g O_NoKind (hr.mono (by omega)) rfl (pv 1)))) pss_nil),?_⟩
 obtain ⟨a,dx,d1,d2,rfl,h1⟩:=hb.at
 refine ⟨_,rfl,_,rfl,a,dx,_,rfl,h1,rfl,?_⟩
 refine ⟨_,b,rfl,hb,hl,fun l H1 s1 hn hl1=>?_⟩
 refine ⟨l,_,rfl,.inl (SqL.of hl1),rfl,z0r _,_,rfl,?_⟩
 rw [z11,Bk.get_isSome]
 cases e:b.get n with
 | some k=>exact qk k e H1 s1
 | none=>exact ⟨_,rfl,fun d hd=>qE e d _ (s1.trans (SB.new hd _)) (s1.dom d hd) upd_same⟩
abbrev zau:List Str:=["things","thing","names","rule"]
theorem sc_q24:FnScope zau ["things"] (defScope z2n):=⟨rfl,rfl,rfl,by decide +kernel,rfl,by decide +kernel,by decide +kernel⟩
theorem zi9 (B:BI mg) (L_MOST_KINDS:∃ t,mg "MOST_KINDS"=some (.int (8) t)) (G_q32:Got P w K mg base "is_kind" ["thing"] (86) (z6l K)) (G_q38:Got P w K mg base "is_rule_of" ["rule","names"] (71) (z1z K)) (F:Fun K "are_kinds" "are_kinds" z2n f fd):FnOk P w K mg base CX0 (87) f fd ["things"] (z3g K):=by
 refine F.ok sc_q24 (fun vs H Q E h=>?_) (fun cdv A outer s H vs Q E hr h=>?_)
 ·obtain ⟨l,xs,ts,rfl,_⟩:=h
  rfl
 obtain ⟨l,xs,ts,rfl,hs,ha,hf,hl,q⟩:=h
 obtain ⟨tk_MOST_KINDS,h_MOST_KINDS⟩:=L_MOST_KINDS
 have hun2:=hunT hr
 refine ⟨_,pss_cons (ps_if (pt_not (pt_chain op_le op_le pe_int (pe_callB call_len_seq rfl B.len PySem.boot_len (pa_cons (pv 0) pa_nil)) (pe_glob (v:=.int (8)) rfl h_MOST_KINDS ⟨_,rfl⟩))) (pss_one (ps_ret pe_bl)) pss_nil)
  (pss_cons (ps_for PassesOwn.never rfl (pi_list (pv 0)) (pg_name (i:=1) sc_q24.nd rfl (.inl rfl))
   (pss_one (ps_if (pt_not (pt_val (z00 G_q32 (hr.mono (by omega)) rfl (pa_cons (pv 1) pa_nil)))) (pss_one (ps_ret pe_bl)) pss_nil)))
  (pss_cons (ps_set (i:=2) sc_q24.nd rfl (.inr rfl) (pe_lc (own:=[("thing",1)]) (g:=(gName 1)) (tt:=tYes) (te:=(tOp (rIxT K) (tVar 1) (tC (.int 0)))) rfl sc_q24.nd (pi_list (pv 0)) (blkOk_by (N:=zau) (sc:=defScope z2n) (by decide +kernel)) (fun _ _ _ _ _=>(pg_name (i:=1) sc_q24.nd rfl (.inl rfl))) (fun _ _ _ _ _=>pts_nil) (fun _ _ _ _ _=>(pe_ix ix_tup (pv 1) pe_int (fun _ _=>rfl)))))
  (pss_cons (ps_if (pt_cmpR op_ne (zap rfl B rfl rfl (pv 2)) (pe_callB call_len_seq rfl B.len PySem.boot_len (pa_cons (pv 2) pa_nil)) (nomark _)) (pss_one (ps_ret pe_bl)) pss_nil)
  (pss_one (ps_ret (pe_callB (cr_all rfl) rfl B.all boot_all (pa_cons (pe_lc2 (own:=[("thing",1),("rule",3)]) (vs1:=[3]) (wi1:=(iList K (tOp (rIxT K) (tVar 1) (tC (.int 2))))) (g:=(gName 1)) (g1:=(gName 3)) (tt:=tYes) (tt1:=tYes) (te:=(tCall (z1z K) [] E0 (tCons (tVar 3) (tCons (tVar 2) tNil)))) rfl sc_q24.nd (pi_list (pv 0)) (blkOk_by (N:=zau) (sc:=defScope z2n) (by decide +kernel)) (by simp) (fun _ _ _ _ _=>(pg_name (i:=1) sc_q24.nd rfl (.inl rfl))) (fun _ _ _ _ _=>pts_nil) (fun _ _ _ _ _=>(pi_list (pe_ix ix_tup (pv 1) pe_int (fun _ _=>rfl)))) (fun _ _ _ _ _=>(pg_name (i:=3) sc_q24.nd rfl (.inl rfl))) (fun _ _ _ _ _=>pts_nil) (fun _ _ _ _ _=>(z00 G_q38 (hr.mono (by omega)) rfl (pa_cons (pv 3) (pa_cons (pv 2) pa_nil))))) pa_nil))))))),?_⟩
 have no:¬ KTBk ts->∀ H',SB [] H H'->Q (.bl false) H':=fun e H' s'=>q false H' s' ⟨(fun z=>nomatch z),fun z=>absurd z e⟩
 have xlen:=ha.length
 have szl:=sizeLine_eq
 refine ⟨_,rfl,l,xs,rfl,.inl hs,_,_,rfl,rfl,_,rfl,?_⟩
 refine ite2 (fun c=>?_) (fun c=>?_)
 ·have c1:=of_decide_eq_true c
  refine ⟨_,_,rfl,rfl,_,rfl,?_⟩
  cases c8:decide (((xs.length:Nat):Int)<=8) with
  | false =>
   have c2:=of_decide_eq_false c8
   refine iteT (no ?_ _ SB.refl)
   rintro ⟨b,e,ok⟩
   have:=ok.len
   rw [e,List.length_map] at xlen
   omega
  | true =>
  refine iteF ?_
  have c2:=of_decide_eq_true c8
  refine ⟨_,rfl,l,rfl,⟨xs,hs⟩,?_⟩
  refine for_list (K:=K) (a:=l) (xs:=xs) (fun i σ H2=>SB [] H H2/\(∃ o,σ=[some (.ref l),o,none,none])/\∀ t ∈ ts.take i,KTKd t) ⟨SB.refl,⟨none,rfl⟩,by simp⟩ (fun i σ H2 hi h2=>h2.1.sqL nmn hs) (fun i x σ H2 hx h2=>?_) (fun σ H2 h2=>?_)
  ·obtain ⟨h2,⟨o,rfl⟩,h3⟩:=h2
   obtain ⟨t,et,ht⟩:=ha.get hx
   have mt:=List.mem_of_getElem? et
   refine ⟨_,rfl,x,t,rfl,zbg h2 ht,hf t mt,fun b H3 s3 hb=>?_⟩
   refine ⟨_,rfl,?_⟩
   cases b with
   | false =>
    refine iteT (no ?_ _ (h2.trans s3))
    rintro ⟨bk,e,ok⟩
    rw [e] at mt
    obtain ⟨k,hk,rfl⟩:=List.mem_map.mp mt
    obtain ⟨o1,o2,o3⟩:=ok.kd k hk
    exact nomatch hb.mpr ⟨k,rfl,o1,o2,fun r hr=>(o3 r hr).1⟩
   | true =>
    refine iteF ⟨h2.trans s3,⟨_,rfl⟩,fun t' ht'=>?_⟩
    rw [List.take_add_one,et,Option.toList_some] at ht'
    rcases List.mem_append.mp ht' with h | h
    ·exact h3 t' h
    ·rw [List.mem_singleton.mp h]; exact hb.mp rfl
  ·obtain ⟨h2,⟨o,rfl⟩,h3⟩:=h2
   rw [xlen,List.take_length] at h3
   obtain ⟨bk,et,hk⟩:=zbo h3
   subst et
   rw [List.length_map] at xlen
   have ha2:=(ha.sb h2).kd
   have hs2:=h2.sqL nmn hs
   refine ⟨_,rfl,l,rfl,⟨xs,hs2⟩,fun D hD=>?_⟩
   refine z0f (walk_list (xs:=xs)) hD (by omega) (fun i us _=>us=((Bk.names bk).take i).map V.str) rfl (fun H6 s6=>s6.sqL nmn hs2) (fun _ _ _ _ _ h=>h) (fun Pv i x H6 H' us hi s6 y hR hl6 fin _=>?_) (fun us H6 s6 hD6 hR _=>?_)
   ·obtain ⟨rfl,ex⟩:=y
    obtain ⟨k,ek,t,r,zs,rfl,g1,g2,g3,_⟩:=ha2.get ex
    refine ⟨rfl,_,rfl,t,_,_,_,rfl,rfl,s6.sqT g1,atI_nat (j:=0) rfl,fin _ _ SB.refl ?_⟩
    rw [hR,List.take_add_one,List.getElem?_map,ek,Option.map_some,Option.toList_some,List.map_append]; rfl
   ·rw [xlen,show (Bk.names bk).take bk.length=Bk.names bk by rw [List.take_of_length_le (by simp)]] at hR
    subst hR
    have s06:=h2.trans s6
    refine ⟨_,rfl,D,Bk.names bk,rfl,SqL.of hD6,by rw [List.length_map]; omega,?_⟩
    refine ⟨_,rfl,D,_,rfl,.inl (SqL.of hD6),rfl,_,rfl,?_⟩
    have hnd:=z85 (Bk.names bk)
    rw [show (List.map V.str (Bk.names bk)).length=(Bk.names bk).length from List.length_map ..]
    by_cases nd:(Bk.names bk).Nodup
    ·rw [hnd.mpr nd,show (!decide (V.int ((Bk.names bk).length:Nat)=V.int ((Bk.names bk).length:Nat)))=false by simp]
     refine iteF ?_
     have ha6:=ha2.sb s6 NoLst.nil
     have hs6:=s6.sqL nmn hs2
     refine ⟨_,rfl,l,rfl,⟨xs,hs6⟩,fun E1 hE1=>?_⟩
     have good:∀ r:Ru,(∃ k ∈ bk,r ∈ k.rs)->RuOk r:=fun r ⟨k,h1,h2⟩=>(hk k h1).2.2 r h2
     refine lcG (walk_list (xs:=xs)) (fun i H2=>SB [E1] H6 H2/\∃ bs:List Bool,H2 E1=some (.lst (bs.map V.bl))/\bs=((bk.take i).flatMap fun k=>k.rs.map fun r=>decide (∀ p ∈ Ru.within r,p.1.1 ∈ Bk.names bk))) ⟨SB.new hE1 _,[],upd_same,rfl⟩ (fun i H2 hi h2=>(h2.1.drop hE1).sqL nmn hs6) (fun i x H2 H' hi h2 y=>?_) (fun H2 h2=>?_)
     ·obtain ⟨s7,bs,hE7,hbs⟩:=h2
      obtain ⟨rfl,ex⟩:=y
      obtain ⟨k,ek,t,r,zs,rfl,g1,g2,g3,_⟩:=ha6.get ex
      have mk:=List.mem_of_getElem? ek
      have zl:=g3.length
      have r4:=(hk k mk).2.1
      have s7':=s7.drop hE1
      refine ⟨rfl,?_⟩
      refine ⟨_,rfl,t,_,_,_,rfl,rfl,s7'.sqT g1,atI_nat (j:=2) rfl,r,rfl,⟨zs,SqL.of (s7'.keep _ _ g2 nmn)⟩,?_⟩
      have hsplit:((bk.take (i+1)).flatMap fun k=>k.rs.map fun r=>decide (∀ p ∈ Ru.within r,p.1.1 ∈ Bk.names bk))=((bk.take i).flatMap fun k=>k.rs.map fun r=>decide (∀ p ∈ Ru.within r,p.1.1 ∈ Bk.names bk))++k.rs.map fun r=>decide (∀ p ∈ Ru.within r,p.1.1 ∈ Bk.names bk):=by rw [List.take_add_one,ek]; simp
      have hlen:bs.length<=4*i:=by
       rw [hbs]
       clear hbs hE7 s7 s7' hsplit ex ek
       induction i with
       | zero=>simp
       | succ i ih =>
        rw [List.take_add_one,List.flatMap_append,List.length_append]
        have:=ih (by omega)
        cases e:bk[i]? with
        | none=>simp only [Option.toList_none,List.flatMap_nil,List.length_nil]; omega
        | some k2 =>
         have:=(hk k2 (List.mem_of_getElem? e)).2.1
         simp only [Option.toList_some,List.flatMap_cons,List.flatMap_nil,List.append_nil,List.length_map]; omega
      refine lcG (walk_list (xs:=zs)) (fun j H3=>SB [E1] H6 H3/\∃ bs2:List Bool,H3 E1=some (.lst (bs2.map V.bl))/\bs2=bs++((k.rs.take j).map fun r=>decide (∀ p ∈ Ru.within r,p.1.1 ∈ Bk.names bk))) ⟨s7,bs,hE7,by simp⟩ (fun j H3 hj h3=>(h3.1.drop hE1).sqL nmn (SqL.of g2)) (fun j x H3 H4 hj h3 y=>?_) (fun H3 h3=>?_)
      ·obtain ⟨s8,bs2,hE8,hbs2⟩:=h3
       obtain ⟨rfl,ex2⟩:=y
       obtain ⟨ru,er,hru⟩:=g3.get ex2
       have s8':=s8.drop hE1
       have mr:=List.mem_of_getElem? er
       refine ⟨rfl,?_⟩
       refine ⟨_,rfl,_,rfl,_,D,ru,Bk.names bk,rfl,z0e s8' _ _ (Ru.noList_enc _) hru,(hk k mk).2.2 ru mr,SqL.of (s8'.keep _ _ hD6 nmn),by rw [List.length_map]; omega,fun H9 s9=>?_⟩
       have hE9:=s9.keep _ _ hE8 nmn
       refine ⟨_,hE9,?_,(s8.trans s9.nil).trans (SB.set hE9 (by simp) _),bs2++[decide (∀ p ∈ Ru.within ru,p.1.1 ∈ Bk.names bk)],(by rw [upd_same,List.map_append]; rfl),?_⟩
       ·rw [List.length_map,hbs2,List.length_append,List.length_map,List.length_take]
        omega
       ·rw [hbs2,List.take_add_one,er,Option.toList_some,List.map_append,<- List.append_assoc]
        exact rfl
      ·obtain ⟨s8,bs2,hE8,hbs2⟩:=h3
       refine ⟨s8,bs2,hE8,?_⟩
       rw [hsplit,hbs2,hbs,zl,List.take_length]
     ·obtain ⟨s7,bs,hE7,hbs⟩:=h2
      rw [xlen,List.take_length] at hbs
      refine ⟨E1,bs,rfl,SqL.of hE7,q _ _ (s06.trans (s7.drop hE1)) ?_⟩
      rw [hbs]
      simp only [List.all_flatMap,List.all_map,List.all_eq_true,Function.comp,id_eq,decide_eq_true_eq]
      constructor
      ·intro h
       exact ⟨bk,rfl,by omega,by omega,nd,fun k mk=>⟨(hk k mk).1,(hk k mk).2.1,fun r mr=>⟨(hk k mk).2.2 r mr,h k mk r mr⟩⟩⟩
      ·rintro ⟨b2,e2,ok⟩ k mk r mr
       have e3:=z7b e2
       subst e3
       exact ((ok.kd k mk).2.2 r mr).2
    ·rw [show (!decide (V.int ((met (Bk.names bk) (Bk.names bk).length).length:Nat)=V.int ((Bk.names bk).length:Nat)))=true by
      rw [decide_eq_false (fun z=>by injection z with z; exact nd (hnd.mp (by omega)))]; rfl]
     refine iteT (no ?_ _ s06)
     rintro ⟨b2,e2,ok⟩
     have e3:=z7b e2
     subst e3
     exact nd ok.nd
 ·have c1:=of_decide_eq_false (Bool.eq_false_iff.mpr c)
  refine ⟨_,rfl,?_⟩
  refine iteT (no ?_ _ SB.refl)
  rintro ⟨b,e,ok⟩
  have:=ok.pos
  rw [e,List.length_map] at xlen
  omega
abbrev zfg:List Str:=["thing","name","spreading","rows","row"]
theorem sc_q32:FnScope zfg ["thing"] (defScope z3z):=⟨rfl,rfl,rfl,by decide +kernel,rfl,by decide +kernel,by decide +kernel⟩
theorem zix (B:BI mg) (L_MOST_RULES:∃ t,mg "MOST_RULES"=some (.int (4) t)) (G_q35:Got P w K mg base "is_name" ["thing"] (2) (z72 K)) (G_q37:Got P w K mg base "is_rule" ["thing"] (85) (z3h K)) (F:Fun K "is_kind" "is_kind" z3z f fd):FnOk P w K mg base CX0 (86) f fd ["thing"] (z6l K):=by
 refine F.ok sc_q32 (fun vs H Q E h=>?_) (fun cdv A outer s H vs Q E hr h=>?_)
 ·obtain ⟨v,t,rfl,_⟩:=h
  rfl
 obtain ⟨v,t,rfl,th,hf,q⟩:=h
 obtain ⟨tk_MOST_RULES,h_MOST_RULES⟩:=L_MOST_RULES
 have hun2:=hunT hr
 refine ⟨_,pss_cons (ps_if (PW.pt (pw_or (pt_not (pt_val (z0z B (pv 0) B.tuple boot_tuple))) (pw_or1 (pt_cmpR op_ne (pe_callB call_len_seq rfl B.len PySem.boot_len (pa_cons (pv 0) pa_nil)) pe_int (nomark _))))) (pss_one (ps_ret pe_bl)) pss_nil)
  (pss_cons (ps_asg (pv 0) (pg_tup rfl (pgs_cons (pg_name (i:=1) sc_q32.nd rfl (.inl rfl)) (pgs_cons (pg_name (i:=2) sc_q32.nd rfl (.inl rfl)) (pgs_cons (pg_name (i:=3) sc_q32.nd rfl (.inl rfl)) pgs_nil)))))
  (pss_cons (ps_if (PW.pt (pw_or (pt_not (pt_val (z00 G_q35 (hr.mono (by omega)) rfl (pa_cons (pv 1) pa_nil)))) (pw_or1 (pt_not (pt_val (z0z B (pv 2) B.bool boot_bool)))))) (pss_one (ps_ret pe_bl)) pss_nil)
  (pss_one (ps_ret (pe_and (z0z B (pv 3) B.list boot_list) (pe_and (pe_cmpR op_le (pe_callB call_len_seq rfl B.len PySem.boot_len (pa_cons (pv 3) pa_nil)) (pe_glob (v:=.int (4)) rfl h_MOST_RULES ⟨_,rfl⟩) (nomark _)) (pe_one (pe_callB (cr_all rfl) rfl B.all boot_all (pa_cons (pe_lc (own:=[("row",4)]) (g:=(gName 4)) (tt:=tYes) (te:=(tCall (z3h K) [] E0 (tCons (tVar 4) tNil))) rfl sc_q32.nd (pi_list (pv 3)) (blkOk_by (N:=zfg) (sc:=defScope z3z) (by decide +kernel)) (fun _ _ _ _ _=>(pg_name (i:=4) sc_q32.nd rfl (.inl rfl))) (fun _ _ _ _ _=>pts_nil) (fun _ _ _ _ _=>(z00 G_q37 (hr.mono (by omega)) rfl (pa_cons (pv 4) pa_nil)))) pa_nil))))))))),?_⟩
 have no:¬ KTKd t->∀ H',SB [] H H'->Q (.bl false) H':=fun e H' s'=>q false H' s' ⟨(fun z=>nomatch z),fun z=>absurd z e⟩
 cases t with
 | other =>
  have n0:¬ KTKd .other:=by rintro ⟨k,e,_⟩; cases e
  obtain ⟨d,tg,hd⟩:=th
  obtain ⟨n1,b,ty,kb,y1,y2⟩:=tg.ty
  refine ⟨_,rfl,_,_,n1,b,rfl,ty,kb,b,rfl,?_⟩
  cases b with
  | false=>exact iteT (iteT (no n0 _ SB.refl))
  | true =>
  refine iteF ?_
  obtain ⟨a,xs,ds,rfl,rfl,hs,ha⟩:=y1 rfl
  refine ⟨_,rfl,a,xs,rfl,.inr hs,rfl,_,rfl,?_⟩
  have hl:=TgAll.length ha
  have h3:=hd ds rfl
  rw [show (!decide (V.int (xs.length:Nat)=V.int 3))=true by rw [decide_eq_false (fun z=>by injection z with z; omega)]; rfl]
  exact iteT (no n0 _ SB.refl)
 | three d w rs =>
  obtain ⟨a,x,y,z,rfl,hs,tx,ty,tz⟩:=th
  refine ⟨_,rfl,_,_,"tuple",true,rfl,z32 hs,by decide +kernel,_,rfl,?_⟩
  refine iteF ?_
  refine ⟨_,rfl,a,_,rfl,.inr hs,rfl,_,rfl,?_⟩
  rw [show (!decide (V.int (([x,y,z]:List V).length:Nat)=V.int 3))=false from rfl]
  refine iteF ?_
  refine ⟨_,rfl,a,_,rfl,hs,rfl,_,_,rfl,_,_,rfl,_,_,rfl,rfl,?_⟩
  refine ⟨_,rfl,x,d,rfl,tx,fun H1 s1=>?_⟩
  refine ⟨_,rfl,?_⟩
  cases g1:z15 d with
  | false =>
   refine iteT (iteT (no ?_ _ s1))
   rintro ⟨k,e,hk,_⟩
   injection e with e _ _
   rw [e,z90 hk] at g1
   cases g1
  | true =>
  refine iteF ?_
  obtain ⟨nm,rfl,hnm⟩:=z4t g1
  cases w with
  | none =>
   obtain ⟨n,ty,kb⟩:=ty
   refine ⟨_,rfl,_,_,n,false,rfl,z2u s1 (fun _ _=>nmn) ty,kb,_,rfl,?_⟩
   refine iteT (no ?_ _ s1)
   rintro ⟨k,e,_⟩
   injection e with _ e _
   cases e
  | some bb =>
  have ty:y=.bl bb:=ty
  subst ty
  refine ⟨_,rfl,_,_,"bool",true,rfl,.base (.bl bb),by decide +kernel,_,rfl,?_⟩
  refine iteF ?_
  cases rs with
  | none =>
   obtain ⟨n,ty,kb⟩:=tz
   refine ⟨_,rfl,_,_,n,false,rfl,z2u s1 (fun _ _=>nmn) ty,kb,_,rfl,?_⟩
   refine iteF (no ?_ _ s1)
   rintro ⟨k,e,_⟩
   injection e with _ _ e
   cases e
  | some ds =>
  obtain ⟨l,zs,rfl,hl,ha⟩:=tz
  obtain ⟨hd1,hd2⟩:=hf ds rfl
  refine ⟨_,rfl,_,_,"list",true,rfl,zik (s1.sqL nmn (SqL.of hl)),by decide +kernel,_,rfl,?_⟩
  refine iteT ?_
  have hlen:=TgAll.length ha
  refine ⟨_,rfl,l,_,rfl,.inl (s1.sqL nmn (SqL.of hl)),_,_,rfl,rfl,_,rfl,?_⟩
  refine ite2 (fun c=>?_) (fun c=>?_)
  ·have c1:=of_decide_eq_true c
   rw [hlen] at c1
   have szl:=sizeLine_eq
   refine ⟨_,rfl,l,rfl,⟨_,s1.sqL nmn (SqL.of hl)⟩,fun D hD=>?_⟩
   refine z0f (walk_list (xs:=zs)) hD (by omega) (fun i us _=>∃ bs:List Bool,us=bs.map V.bl/\bs.length=i/\∀ j b,bs[j]?=some b->∀ x,ds[j]?=some x->(b=true ↔ RuD x)) ⟨[],rfl,rfl,fun j b h=>by rw [List.getElem?_nil] at h; cases h⟩ (fun H6 s6=>s6.sqL nmn (s1.sqL nmn (SqL.of hl))) (fun _ _ _ _ _ h=>h) (fun Pv i x H6 H' us hi s6 y hR hl6 fin _=>?_) (fun us H6 s6 hD6 hR _=>?_)
   ·obtain ⟨rfl,ex⟩:=y
    obtain ⟨p,ep,hp⟩:=TgAll.get ha ex
    obtain ⟨bs,rfl,hbl,hbs⟩:=hR
    refine ⟨rfl,_,rfl,x,p,rfl,z1p (s1.trans s6) hp,hd2 _ (List.mem_of_getElem? ep),fun b H7 s7 hb=>fin _ _ s7 ⟨bs++[b],by rw [List.map_append]; rfl,by rw [List.length_append,hbl]; rfl,fun j b' hj y hy=>?_⟩⟩
    by_cases hji:j < bs.length
    ·rw [List.getElem?_append_left hji] at hj
     exact hbs j b' hj y hy
    ·have hj':j=bs.length:=by
      have:=(List.getElem?_eq_some_iff.mp hj).1
      rw [List.length_append,List.length_singleton] at this
      omega
     subst hj'
     rw [List.getElem?_append_right (Nat.le_refl _),Nat.sub_self] at hj
     cases hj
     rw [hbl,ep] at hy
     cases hy
     exact hb
   ·obtain ⟨bs,rfl,hbl,hbs⟩:=hR
    refine ⟨D,bs,rfl,SqL.of hD6,q _ _ (s1.trans s6) ?_⟩
    have h1:(bs.all id=true) ↔ ∀ x ∈ ds,RuD x:=by
     rw [List.all_eq_true]
     constructor
     ·intro h x hx
      obtain ⟨j,hj,e⟩:=List.getElem_of_mem hx
      have hjb:j < bs.length:=by omega
      exact (hbs j bs[j] (List.getElem?_eq_getElem hjb) x (by rw [List.getElem?_eq_getElem hj,e])).mp (h _ (List.getElem_mem hjb))
     ·intro h b hb
      obtain ⟨j,hj,e⟩:=List.getElem_of_mem hb
      have hjb:j < ds.length:=by omega
      exact (hbs j b (by rw [List.getElem?_eq_getElem hj,e]) ds[j] (List.getElem?_eq_getElem hjb)).mpr (h _ (List.getElem_mem hjb))
    rw [h1]
    constructor
    ·intro h
     obtain ⟨rr,e1,e2⟩:=z9v h
     exact ⟨⟨nm,bb,rr⟩,by rw [Kd.kt,e1],hnm,by rw [e1,List.length_map] at c1; show rr.length<=4; omega,e2⟩
    ·rintro ⟨k,e,_,_,hk⟩ x hx
     injection e with _ _ e
     injection e with e
     rw [e] at hx
     obtain ⟨r,hr,rfl⟩:=List.mem_map.mp hx
     exact ⟨r,rfl,hk r hr⟩
  ·have c1:=of_decide_eq_false (Bool.eq_false_iff.mpr c)
   rw [hlen] at c1
   refine no ?_ _ s1
   rintro ⟨k,e,_,h4,_⟩
   injection e with _ _ e
   injection e with e
   rw [e,List.length_map] at c1
   omega
abbrev zdp:List Str:=["thing","once","each","pairs","tree","many"]
theorem sc_q37:FnScope zdp ["thing"] (defScope z4c):=⟨rfl,rfl,rfl,by decide +kernel,rfl,by decide +kernel,by decide +kernel⟩
theorem zhi (B:BI mg) (L_MOST_RULE_PARTS:∃ t,mg "MOST_RULE_PARTS"=some (.int (4) t)) (L_MOST_MANY:∃ t,mg "MOST_MANY"=some (.int (1000000000) t)) (G_q31:Got P w K mg base "is_grove" ["thing"] (84) (z1c K 81)) (G_q51:Got P w K mg base "pairs_within" ["grove"] (70) (z1h K 70)) (F:Fun K "is_rule" "is_rule" z4c f fd):FnOk P w K mg base CX0 (85) f fd ["thing"] (z3h K):=by
 refine F.ok sc_q37 (fun vs H Q E h=>?_) (fun cdv A outer s H vs Q E hr h=>?_)
 ·obtain ⟨v,d,rfl,_⟩:=h
  rfl
 obtain ⟨v,d,rfl,th,hf,q⟩:=h
 obtain ⟨tk_MOST_RULE_PARTS,h_MOST_RULE_PARTS⟩:=L_MOST_RULE_PARTS
 obtain ⟨tk_MOST_MANY,h_MOST_MANY⟩:=L_MOST_MANY
 have hun2:=hunT hr
 refine ⟨_,pss_cons (ps_if (PW.pt (pw_or (pt_not (pt_val (z0z B (pv 0) B.tuple boot_tuple))) (pw_or1 (pt_cmpR op_ne (pe_callB call_len_seq rfl B.len PySem.boot_len (pa_cons (pv 0) pa_nil)) pe_int (nomark _))))) (pss_one (ps_ret pe_bl)) pss_nil)
  (pss_cons (ps_asg (pv 0) (pg_tup rfl (pgs_cons (pg_name (i:=1) sc_q37.nd rfl (.inl rfl)) (pgs_cons (pg_name (i:=2) sc_q37.nd rfl (.inl rfl)) pgs_nil))))
  (pss_cons (ps_if (PW.pt (pw_or (pt_not (pt_val (z00 G_q31 (hr.mono (by omega)) rfl (pa_cons (pv 1) pa_nil)))) (pw_or1 (pt_not (pt_val (z00 G_q31 (hr.mono (by omega)) rfl (pa_cons (pv 2) pa_nil))))))) (pss_one (ps_ret pe_bl)) pss_nil)
  (pss_cons (ps_set (i:=3) sc_q37.nd rfl (.inl rfl) (pe_op op_cat (z00 G_q51 (hr.mono (by omega)) rfl (pa_cons (pv 1) pa_nil)) (z00 G_q51 (hr.mono (by omega)) rfl (pa_cons (pv 2) pa_nil))))
  (pss_one (ps_ret (pe_and (pe_cmpR op_le (pe_callB call_len_seq rfl B.len PySem.boot_len (pa_cons (pv 3) pa_nil)) (pe_glob (v:=.int (4)) rfl h_MOST_RULE_PARTS ⟨_,rfl⟩) (nomark _)) (pe_one (pe_callB (cr_all rfl) rfl B.all boot_all (pa_cons (pe_lc (own:=[("tree",4),("many",5)]) (g:=(gTup K 2 (gCons (gName 4) (gCons (gName 5) gNil)))) (tt:=tYes) (te:=(tOp (rI0 fun i j=>.bl (decide (i<=j))) (tVar 5) (tC (.int (1000000000))))) rfl sc_q37.nd (pi_list (pv 3)) (blkOk_by (N:=zdp) (sc:=defScope z4c) (by decide +kernel)) (fun _ _ _ _ _=>(pg_tup rfl (pgs_cons (pg_name (i:=4) sc_q37.nd rfl (.inl rfl)) (pgs_cons (pg_name (i:=5) sc_q37.nd rfl (.inl rfl)) pgs_nil)))) (fun _ _ _ _ _=>pts_nil) (fun _ _ _ _ _=>(pe_cmpR op_le (pv 5) (pe_glob (v:=.int (1000000000)) rfl h_MOST_MANY ⟨_,rfl⟩) (nomark _)))) pa_nil))))))))),?_⟩
 have no:¬ RuD d->∀ H',SB [] H H'->Q (.bl false) H':=fun e H' s'=>q false H' s' ⟨(fun z=>nomatch z),fun z=>absurd z e⟩
 obtain ⟨n1,b,ty,kb,y1,y2⟩:=th.ty
 refine ⟨_,rfl,_,_,n1,b,rfl,ty,kb,b,rfl,?_⟩
 cases b with
 | false =>
  refine iteT (iteT (no ?_ _ SB.refl))
  rintro ⟨r,e,_⟩
  exact y2 rfl _ e
 | true =>
 refine iteF ?_
 obtain ⟨a,xs,ds,rfl,rfl,hs,ha⟩:=y1 rfl
 refine ⟨_,rfl,a,xs,rfl,.inr hs,rfl,_,rfl,?_⟩
 have hl:=TgAll.length ha
 by_cases c2:xs.length=2
 ·rw [show (!decide (V.int (xs.length:Nat)=V.int 2))=false by rw [c2]; rfl]
  refine iteF ?_
  cases ha with
  | nil=>simp at c2
  | cons t1 ta =>
   cases ta with
   | nil=>simp at c2
   | cons t2 ta =>
    cases ta with
    | cons t3 ta=>simp at c2
    | nil =>
     rename_i v1 d1 v2 d2
     obtain ⟨f1,f2,f3⟩:=hf
     have q1:d1.depth < PyData.depth (.tuple [d1,d2])/\d2.depth < PyData.depth (.tuple [d1,d2]):=by simp only [PyData.depth,PyData.depthAll]; omega
     have q2:wide d1<=wide (.tuple [d1,d2])/\wide d2<=wide (.tuple [d1,d2]):=by simp only [wide,z0w]; omega
     refine ⟨_,rfl,a,_,rfl,hs,rfl,_,_,rfl,_,_,rfl,rfl,?_⟩
     refine ⟨_,rfl,v1,d1,rfl,t1,by omega,by omega,by omega,fun H1 s1=>?_⟩
     refine ⟨_,rfl,?_⟩
     cases g1:z09 d1 with
     | false =>
      refine iteT (iteT (no ?_ _ s1))
      intro z
      obtain ⟨g,k,e,z1,_⟩:=z9g z
      injection e with e
      injection e with e _
      rw [e,z1] at g1
      cases g1
     | true =>
     refine iteF ?_
     refine ⟨_,rfl,v2,d2,rfl,z1p s1 t2,by omega,by omega,by omega,fun H2 s2=>?_⟩
     have s02:=s1.trans s2
     refine ⟨_,rfl,?_⟩
     cases g2:z09 d2 with
     | false =>
      refine iteT (no ?_ _ s02)
      intro z
      obtain ⟨g,k,e,_,z1⟩:=z9g z
      injection e with e
      injection e with _ e
      injection e with e _
      rw [e,z1] at g2
      cases g2
     | true =>
     refine iteF ?_
     obtain ⟨u1,rfl⟩:=z4q _ g1
     obtain ⟨u2,rfl⟩:=z4q _ g2
     obtain ⟨w1,w2⟩:=f3 _ _ rfl u1 (.inl rfl)
     obtain ⟨w3,w4⟩:=f3 _ _ rfl u2 (.inr rfl)
     have ga1:GA K H v1 u1:=by
      cases t1 with
      | tup h1 h2=>exact .tup h1 (z3i u1 h2)
     have ga2:GA K H v2 u2:=by
      cases t2 with
      | tup h1 h2=>exact .tup h1 (z3i u2 h2)
     refine ⟨_,rfl,_,u1,rfl,ga1.sb s02,by omega,by omega,fun D1 us1 H3 s3 hn1 hD1 hb1=>?_⟩
     refine ⟨_,rfl,_,u2,rfl,(ga2.sb s02).sb s3,by omega,by omega,fun D2 us2 H4 s4 hn2 hD2 hb2=>?_⟩
     have l1:=hb1.length
     have l2:=hb2.length
     rw [Gr.within_length] at l1 l2
     have szl:=sizeLine_eq
     refine ⟨D1,D2,us1,us2,rfl,rfl,s4.keep _ _ hD1 nmn,hD2,by omega,fun D3 hn3=>?_⟩
     have t5:=SB.new (ps:=[]) hn3 (.lst (us1++us2))
     have s05:=((s02.trans s3).trans s4).trans t5
     have hD3:upd H4 D3 (.lst (us1++us2)) D3=some (.lst (us1++us2)):=upd_same
     have hb3:Bears K (upd H4 D3 (.lst (us1++us2))) Gr.pEnc (us1++us2) (u1.within++u2.within):=Bears.append ((hb1.sb s4 Gr.noList_pEnc).sb t5 Gr.noList_pEnc) (hb2.sb t5 Gr.noList_pEnc)
     generalize upd H4 D3 (.lst (us1++us2))=H5 at t5 s05 hD3 hb3
     have iff1:=zfm g1 g2
     refine ⟨_,rfl,D3,_,rfl,.inl (SqL.of hD3),_,_,rfl,rfl,_,rfl,?_⟩
     refine ite2 (fun c=>?_) (fun c=>?_)
     ·have c1:=of_decide_eq_true c
      rw [List.length_append,l1,l2] at c1
      have bl3:=hb3.length
      refine ⟨_,rfl,D3,rfl,⟨_,SqL.of hD3⟩,fun D hD=>?_⟩
      refine z0f (walk_list (xs:=us1++us2)) hD (by rw [List.length_append]; omega) (fun i us _=>us=((u1.within++u2.within).take i).map fun p=>V.bl (decide (p.2<=1000000000))) rfl (fun H6 s6=>s6.sqL nmn (SqL.of hD3)) (fun _ _ _ _ _ h=>h) (fun Pv i x H6 H' us hi s6 y hR hl6 fin _=>?_) (fun us H6 s6 hD6 hR _=>?_)
      ·obtain ⟨rfl,ex⟩:=y
       obtain ⟨p,ep,hpd⟩:=hb3.get ex
       obtain ⟨ad,td,ux,rfl,hs2,hs3,hga,hdt⟩:=z0x hpd
       refine ⟨ad,_,rfl,s6.sqT hs2,rfl,_,_,rfl,_,_,rfl,rfl,rfl,?_⟩
       refine ⟨_,rfl,_,_,rfl,rfl,fin _ _ SB.refl ?_⟩
       rw [hR,List.take_add_one,ep,Option.toList_some,List.map_append]; rfl
      ·rw [bl3,List.take_length] at hR
       subst hR
       refine ⟨D,((u1.within++u2.within).map fun p=>decide (p.2<=1000000000)),rfl,SqL.of (by rw [List.map_map]; exact hD6),q _ _ (s05.trans s6) ?_⟩
       rw [iff1]
       simp only [List.all_map,List.all_eq_true,Function.comp,id_eq,decide_eq_true_eq]
       exact ⟨fun h=>⟨by omega,h⟩,fun h=>h.2⟩
     ·have c1:=of_decide_eq_false (Bool.eq_false_iff.mpr c)
      rw [List.length_append,l1,l2] at c1
      refine q false _ s05 ⟨(fun z=>nomatch z),fun z=>absurd (iff1.mp z).1 (by omega)⟩
 ·rw [show (!decide (V.int (xs.length:Nat)=V.int 2))=true by rw [decide_eq_false (fun z=>by injection z with z; omega)]; rfl]
  refine iteT (no ?_ _ SB.refl)
  rintro ⟨r,e,_⟩
  have e':PyData.tuple ds=.tuple [r.1.enc,r.2.enc]:=e
  injection e' with e'
  rw [e'] at hl
  exact c2 hl
abbrev zee:List Str:=["rule","names","once","each","tree","many"]
theorem sc_q38:FnScope zee ["rule","names"] (defScope z42):=⟨rfl,rfl,rfl,by decide +kernel,rfl,by decide +kernel,by decide +kernel⟩
theorem zhb (B:BI mg) (G_q51:Got P w K mg base "pairs_within" ["grove"] (70) (z1h K 70)) (F:Fun K "is_rule_of" "is_rule_of" z42 f fd):FnOk P w K mg base CX0 (71) f fd ["rule","names"] (z1z K):=by
 refine F.ok sc_q38 (fun vs H Q E h=>?_) (fun cdv A outer s H vs Q E hr h=>?_)
 ·obtain ⟨v,l,r,ns,rfl,_⟩:=h
  rfl
 obtain ⟨v,l,r,ns,rfl,hv,ho,hs,hn,q⟩:=h
 have hun2:=hunT hr
 refine ⟨_,pss_cons (ps_asg (pv 0) (pg_tup rfl (pgs_cons (pg_name (i:=2) sc_q38.nd rfl (.inl rfl)) (pgs_cons (pg_name (i:=3) sc_q38.nd rfl (.inl rfl)) pgs_nil))))
  (pss_one (ps_ret (pe_callB (cr_all rfl) rfl B.all boot_all (pa_cons (pe_lc (own:=[("tree",4),("many",5)]) (g:=(gTup K 2 (gCons (gName 4) (gCons (gName 5) gNil)))) (tt:=tYes) (te:=(tOp (rIn K false) (tOp (rIxT K) (tVar 4) (tC (.int 0))) (tVar 1))) rfl sc_q38.nd (pi_list (pe_op op_cat (z00 G_q51 (hr.mono (by omega)) rfl (pa_cons (pv 2) pa_nil)) (z00 G_q51 (hr.mono (by omega)) rfl (pa_cons (pv 3) pa_nil)))) (blkOk_by (N:=zee) (sc:=defScope z42) (by decide +kernel)) (fun _ _ _ _ _=>(pg_tup rfl (pgs_cons (pg_name (i:=4) sc_q38.nd rfl (.inl rfl)) (pgs_cons (pg_name (i:=5) sc_q38.nd rfl (.inl rfl)) pgs_nil)))) (fun _ _ _ _ _=>pts_nil) (fun _ _ _ _ _=>(pe_cmpR op_in_seq (pe_ix ix_tup (pv 4) pe_int (fun _ _=>rfl)) (pv 1) (by rfl)))) pa_nil)))),?_⟩
 obtain ⟨ho1,ho2,ho3⟩:=ho
 cases (hv:Dp K H v (.tuple [r.1.enc,r.2.enc])) with
 | tup ht hd =>
 rename_i a xs
 cases hd with
 | cons g1 hd =>
 cases hd with
 | cons g2 hd =>
 cases hd
 have dp1:=(z07 r.1)
 have dp2:=(z07 r.2)
 refine ⟨_,rfl,a,_,rfl,ht,rfl,_,_,rfl,_,_,rfl,rfl,?_⟩
 have ga1:GA K H _ r.1:=g1
 have ga2:GA K H _ r.2:=g2
 refine ⟨_,rfl,_,r.1,rfl,ga1,by omega,by omega,fun D1 us1 H3 s3 hn1 hD1 hb1=>?_⟩
 refine ⟨_,rfl,_,r.2,rfl,ga2.sb s3,by omega,by omega,fun D2 us2 H4 s4 hn2 hD2 hb2=>?_⟩
 have l1:=hb1.length
 have l2:=hb2.length
 rw [Gr.within_length] at l1 l2
 have szl:=sizeLine_eq
 refine ⟨D1,D2,us1,us2,rfl,rfl,s4.keep _ _ hD1 nmn,hD2,by omega,fun D3 hn3=>?_⟩
 have t5:=SB.new (ps:=[]) hn3 (.lst (us1++us2))
 have s05:=(s3.trans s4).trans t5
 have hD3:upd H4 D3 (.lst (us1++us2)) D3=some (.lst (us1++us2)):=upd_same
 have hb3:Bears K (upd H4 D3 (.lst (us1++us2))) Gr.pEnc (us1++us2) (r.1.within++r.2.within):=Bears.append ((hb1.sb s4 Gr.noList_pEnc).sb t5 Gr.noList_pEnc) (hb2.sb t5 Gr.noList_pEnc)
 generalize upd H4 D3 (.lst (us1++us2))=H5 at t5 s05 hD3 hb3
 have bl3:=hb3.length
 refine ⟨D3,rfl,⟨_,SqL.of hD3⟩,fun D hD=>?_⟩
 refine z0f (walk_list (xs:=us1++us2)) hD (by rw [List.length_append]; omega) (fun i us _=>us=((r.1.within++r.2.within).take i).map fun p=>V.bl (decide (p.1.1 ∈ ns))) rfl (fun H6 s6=>s6.sqL nmn (SqL.of hD3)) (fun _ _ _ _ _ h=>h) (fun Pv i x H6 H' us hi s6 y hR hl6 fin _=>?_) (fun us H6 s6 hD6 hR _=>?_)
 ·obtain ⟨rfl,ex⟩:=y
  obtain ⟨p,ep,hpd⟩:=hb3.get ex
  obtain ⟨ad,td,ux,rfl,hs2,hs3,hga,hdt⟩:=z0x hpd
  refine ⟨ad,_,rfl,s6.sqT hs2,rfl,_,_,rfl,_,_,rfl,rfl,rfl,?_⟩
  refine ⟨_,rfl,td,_,_,_,rfl,rfl,s6.sqT hs3,atI_nat (j:=0) rfl,_,rfl,l,_,rfl,.inl ((s05.trans s6).sqL nmn hs),rfl,z0r _,fin _ _ SB.refl ?_⟩
  rw [hR,List.take_add_one,ep,Option.toList_some,List.map_append,z11]; rfl
 ·rw [bl3,List.take_length] at hR
  subst hR
  refine ⟨D,((r.1.within++r.2.within).map fun p=>decide (p.1.1 ∈ ns)),rfl,SqL.of (by rw [List.map_map]; exact hD6),?_⟩
  have:=q _ (s05.trans s6)
  rw [show (List.map (fun p:Tr × Int=>decide (p.1.1 ∈ ns)) (r.1.within++r.2.within)).all id=decide (∀ p ∈ Ru.within r,p.1.1 ∈ ns) by
   rw [Bool.eq_iff_iff]
   simp only [List.all_map,List.all_eq_true,Function.comp,id_eq,decide_eq_true_eq]
   exact Iff.rfl]
  exact this
abbrev zfb:List Str:=["one","other","exponent","many","kept","alike","pair"]
theorem sc_q25:FnScope zfb ["one","other"] (defScope z48):=⟨rfl,rfl,rfl,by decide +kernel,rfl,by decide +kernel,by decide +kernel⟩
theorem zit (B:BI mg) (GL:Got P w K mg base "is_less" ["one","other"] 1 (z1t K)) (GM:Got P w K mg base "many_at" ["pairs","thing"] 1 (z6f K)) (F:Fun K "behind" "behind" z48 f fd):FnOk P w K mg base CX0 2 f fd ["one","other"] (z26 K):=by
 refine F.ok sc_q25 (fun vs H Q E h=>?_) (fun cdv A outer s H vs Q E hr h=>?_)
 ·obtain ⟨v,u,l,k,rfl,_⟩:=h
  rfl
 obtain ⟨v,u,l,k,rfl,hv,hu,hd,hd2,hp,hp2,q⟩:=h
 refine ⟨_,pss_cons (ps_if (pt_not (pt_truth (pv 1) (by intro _; rfl))) (pss_one (ps_ret (pv 0))) pss_nil)
  (pss_cons (ps_asg (pe_ix ix_tup (pv 1) pe_int (fun _ _=>rfl)) (pg_tup rfl (pgs_cons (pg_name (i:=2) sc_q25.nd rfl (.inr rfl)) (pgs_cons (pg_name (i:=3) sc_q25.nd rfl (.inl rfl)) pgs_nil))))
  (pss_cons (ps_set (i:=4) sc_q25.nd rfl (.inl rfl) (pe_callTy call_tuple_of rfl B.tuple boot_tuple (pa_cons
   (pe_lc (own:=[("pair",6)]) (g:=gName 6) (tt:=tB (tCall (z1t K) [] E0 (tCons (tVar 2) (tCons (tOp (rIxT K) (tVar 6) (tC (.int 0))) tNil)))) (te:=tVar 6) rfl sc_q25.nd (pi_tup (pv 0))
    (blkOk_by (N:=zfb) (sc:=defScope z48) (by decide +kernel))
    (fun _ _ _ _ _=>pg_name (i:=6) sc_q25.nd rfl (.inl rfl))
    (fun _ _ _ _ _=>pts_one (pt_val (z00 GL hr rfl (pa_cons (pv 2) (pa_cons (pe_ix ix_tup (pv 6) pe_int (fun _ _=>rfl)) pa_nil)))))
    (fun _ _ _ _ _=>pv 6)) pa_nil)))
  (pss_cons (ps_set (i:=5) sc_q25.nd rfl (.inl rfl) (z00 GM hr rfl (pa_cons (pv 0) (pa_cons (pv 2) pa_nil))))
  (pss_one (ps_ret (pe_op z7j (pe_op z7j (pv 4) (pe_tup (pa_cons (pe_tup (pa_cons (pv 2) (pa_cons (pe_op op_add (pv 5) (pv 3)) pa_nil))) pa_nil))) (pe_slice zg9 (pv 1) (po_some pe_int) po_none))))))),?_⟩
 obtain ⟨b,ys,rfl,hsb,hbb⟩:=z0n hu
 refine ⟨_,rfl,_,.inr (.inl ⟨ys,hsb,rfl⟩),?_⟩
 cases k with
 | nil =>
  cases hbb
  refine iteT ?_
  exact ⟨_,rfl,q v H SB.refl hv⟩
 | cons e m r =>
  rw [show (Lad.cons e m r).ps=(e,m)::r.ps from rfl] at hbb
  cases hbb with
  | @cons y0 yr _ _ h0 hbr =>
  refine iteF ?_
  obtain ⟨c,ue,rfl,hsc,hle⟩:=z10 h0
  refine ⟨_,rfl,b,_,_,_,rfl,rfl,hsb,atI_nat (j:=0) rfl,c,_,rfl,hsc,rfl,_,_,rfl,_,_,rfl,rfl,?_⟩
  obtain ⟨a,xs,rfl,hsa,hba⟩:=z0n hv
  have bl:=hba.length
  have lp:=l.len_parts
  rw [<- Lad.ps_length] at lp
  have ed:e.deep < (Lad.cons e m r).deep:=Lad.mem_deep (.cons e m r) (e,m) (mcs ..)
  refine ⟨_,rfl,a,rfl,⟨xs,hsa⟩,fun D hD=>?_⟩
  refine lc_it (walk_tup (xs:=xs)) (fun i H2=>SB [D] H H2/\∃ acc,H2 D=some (.lst acc)/\Bears K H2 Lad.pEnc acc ((l.ps.take i).filter fun p=>e.lt p.1)) ⟨SB.new hD _,[],upd_same,.nil⟩ (fun i H2 hi h2=>(h2.1.drop hD).sqT hsa) (fun i x H2 H' hi h2 y=>?_) (fun H2 h2=>?_)
  ·obtain ⟨s2,acc,hD2,hb2⟩:=h2
   obtain ⟨rfl,ex⟩:=y
   have s2':=s2.drop hD
   obtain ⟨b1,eb,hbd⟩:=hba.get ex
   obtain ⟨ad,ux,rfl,hs2,hla⟩:=z10 hbd
   refine ⟨rfl,?_⟩
   refine ⟨_,rfl,_,rfl,ad,_,_,_,rfl,rfl,s2'.sqT hs2,atI_nat (j:=0) rfl,ue,ux,e,b1.1,rfl,hle.sb s2',hla.sb s2',by omega,_,rfl,?_⟩
   have al:=hb2.length
   have fl:=List.length_filter_le (fun p:Lad × Int=>e.lt p.1) (l.ps.take i)
   rw [List.length_take] at fl
   cases hc:e.lt b1.1 with
   | true =>
    refine iteT ?_
    refine ⟨_,rfl,acc,hD2,small1000 (by omega),?_⟩
    have t9:=SB.set (ps:=[D]) hD2 (by simp) (.lst (acc++[.ref ad]))
    refine ⟨s2.trans t9,_,upd_same,?_⟩
    rw [List.take_add_one,eb,List.filter_append]
    refine Bears.append (hb2.sb t9 Lad.pEnc_noList) ?_
    have:([b1]:List (Lad × Int)).filter (fun p=>e.lt p.1)=[b1]:=by simp [hc]
    show Bears K _ Lad.pEnc _ (([b1]:List (Lad × Int)).filter (fun p=>e.lt p.1))
    rw [this]
    exact .cons (z0e t9 _ _ (Lad.pEnc_noList _) (z0e s2' _ _ (Lad.pEnc_noList _) hbd)) .nil
   | false =>
    refine iteF ?_
    refine ⟨s2,acc,hD2,?_⟩
    rw [List.take_add_one,eb,List.filter_append]
    simpa [hc] using hb2
  ·obtain ⟨s2,acc,hD2,hb2⟩:=h2
   rw [bl,List.take_length] at hb2
   have s2':=s2.drop hD
   refine ⟨D,acc,rfl,.inl ⟨SqL.of hD2,fun kt hkt=>?_⟩⟩
   have s3:=SB.new (ps:=[]) hkt (.tup acc)
   have s23:=s2'.trans s3
   refine ⟨_,rfl,_,rfl,_,ue,l,e,rfl,hv.sb s23,hle.sb s23,by omega,by omega,by omega,fun H4 s4=>?_⟩
   refine ⟨_,rfl,_,rfl,_,rfl,_,rfl,_,_,rfl,rfl,(by show 2<=sizeLine; decide),fun t1 ht1=>?_⟩
   have s5:=SB.new (ps:=[]) ht1 (.tup [ue,.int (Lad.sumAt l.ps e+m)])
   refine ⟨(by show 1<=sizeLine; decide),fun t2 ht2=>?_⟩
   have s6:=SB.new (ps:=[]) ht2 (.tup [.ref t1])
   have al:=hb2.length
   have fl:=List.length_filter_le (fun p:Lad × Int=>e.lt p.1) l.ps
   refine ⟨kt,t2,_,_,rfl,rfl,((s4.trans s5).trans s6).sqT (SqT.of upd_same),SqT.of upd_same,by rw [List.length_singleton]; omega,fun c1 H7 s7 hc1=>?_⟩
   have s47:=((s4.trans s5).trans s6).trans s7
   refine ⟨_,rfl,1,rfl,b,_,rfl,(s23.trans s47).sqT hsb,fun c2 H8 s8 hc2=>?_⟩
   have e1:cutV (V.ref c::yr) (some 1) none=yr:=by
    have:=z9u (V.ref c::yr) 1
    exact this
   rw [e1] at hc2
   have rl:=hbr.length
   have rp:=(Lad.cons e m r).len_parts
   have rp2:r.ps.length+1=(Lad.cons e m r).len:=by rw [<- Lad.ps_length]; rfl
   refine ⟨c1,c2,_,_,rfl,rfl,s8.sqT hc1,hc2,by rw [List.length_append,List.length_singleton]; omega,fun c3 H9 s9 hc3=>?_⟩
   refine q _ _ (((s23.trans s47).trans s8).trans s9) ?_
   rw [Lad.bhd_cons]
   refine z3j hc3 ?_
   have z1:SB [] _ H9:=(s3.trans s47).trans (s8.trans s9)
   have z2:SB [] _ H9:=(s6.trans s7).trans (s8.trans s9)
   rw [List.append_assoc]
   refine Bears.append (hb2.sb z1 Lad.pEnc_noList) (.cons ?_ (hbr.sb ((s23.trans s47).trans (s8.trans s9)) Lad.pEnc_noList))
   exact Dp.tup (z2.sqT (SqT.of upd_same)) (.cons (hle.sb (((s23.trans s47).trans s8).trans s9)) (.cons (.int _) .nil))
theorem zio:FnScope ["one","other"] ["one","other"] (defScope z53):=⟨rfl,rfl,rfl,by decide +kernel,rfl,by decide +kernel,by decide +kernel⟩
theorem zih (G:Got P w K mg base "all_together" ["some"] 2 (z71 K)) (F:Fun K "both" "both" z53 f fd):FnOk P w K mg base CX0 3 f fd ["one","other"] (z8t K):=by
 refine F.ok zio (fun vs H Q E h=>?_) (fun cdv A outer s H vs Q E hr h=>?_)
 ·obtain ⟨v,u,l,k,rfl,_⟩:=h
  rfl
 obtain ⟨v,u,l,k,rfl,hv,hu,hd,hd2,hp,hp2,q⟩:=h
 refine ⟨_,pss_one (ps_ret (z00 G hr rfl (pa_cons (pe_lst (pa_cons (pv 0) (pa_cons (pv 1) pa_nil))) pa_nil))),?_⟩
 have lp:=l.len_parts
 have kp:=k.len_parts
 rw [<- Lad.ps_length] at lp kp
 refine ⟨_,rfl,_,rfl,(by show 2<=sizeLine; decide),fun p hp=>?_⟩
 have s1:=SB.new (ps:=[]) hp (.lst [v,u])
 refine ⟨p,_,[l,k],rfl,SqL.of upd_same,.cons (hv.sb s1) (.cons (hu.sb s1) .nil),fun x hx=>?_,by simp; omega,fun x H' s2 hx=>?_⟩
 ·simp at hx
  rcases hx with rfl | rfl <;> assumption
 ·rw [Lad.bths_two] at hx
  exact q _ _ (s1.trans s2) hx
abbrev zbj:List Str:=["some","pairs","ladder","pair"]
theorem sc_q22:FnScope zbj ["some"] (defScope z3v):=⟨rfl,rfl,rfl,by decide +kernel,rfl,by decide +kernel,by decide +kernel⟩
theorem zif (B:BI mg) (G:Got P w K mg base "joined" ["pairs"] 1 (z41 K Lad.enc)) (F:Fun K "all_together" "all_together" z3v f fd):FnOk P w K mg base CX0 2 f fd ["some"] (z71 K):=by
 refine F.ok sc_q22 (fun vs H Q E h=>?_) (fun cdv A outer s H vs Q E hr h=>?_)
 ·obtain ⟨a,xs,ls,rfl,_⟩:=h
  rfl
 obtain ⟨a,xs,ls,rfl,hs,hb,hd,hn,q⟩:=h
 have hun2:=hunT hr
 refine ⟨_,pss_cons (ps_setLc2 (i:=1) (own:=[("ladder",2),("pair",3)]) (vs1:=[3]) (wi1:=iTup K (tVar 2)) (g:=gName 2) (g1:=gName 3) (tt:=tYes) (tt1:=tYes) (te:=tVar 3) rfl sc_q22.nd rfl rfl (sw_true rfl rfl rfl (by decide +kernel)) (pi_list (pv 0))
   (blkOk_by (N:=zbj) (sc:=defScope z3v) (by decide +kernel)) (by simp)
   (fun _ _ _ _ _=>pg_name (i:=2) sc_q22.nd rfl (.inl rfl)) (fun _ _ _ _ _=>pts_nil)
   (fun _ _ _ _ _=>pi_tup (pv 2)) (fun _ _ _ _ _=>pg_name (i:=3) sc_q22.nd rfl (.inl rfl)) (fun _ _ _ _ _=>pts_nil) (fun _ _ _ _ _=>pv 3))
  (pss_one (ps_ret (z00 G hr rfl (pa_cons (pe_callBK (z97 Lad.pEnc (b:=true) (by show A.units+3+110 < cLine; omega)) rfl B.sorted (by decide +kernel) (pa_cons (pv 1) pa_nil) (pk_cons pe_bl pk_nil)) pa_nil)))),?_⟩
 have xl:=hb.length
 refine ⟨_,rfl,a,rfl,⟨xs,hs⟩,fun D hD=>?_⟩
 refine lcG (walk_list (xs:=xs)) (fun i H2=>SB [D] H H2/\∃ acc,H2 D=some (.lst acc)/\Bears K H Lad.pEnc acc ((ls.take i).flatMap Lad.ps)) ⟨SB.new hD _,[],upd_same,.nil⟩ (fun i H2 hi h2=>(h2.1.drop hD).sqL nmn hs) (fun i x H2 H' hi h2 y=>?_) (fun H2 h2=>?_)
 ·obtain ⟨s2,acc,hD2,hacc⟩:=h2
  obtain ⟨rfl,ex⟩:=y
  obtain ⟨l,el,hl⟩:=hb.get ex
  obtain ⟨c,ys,rfl,hsc,hbc⟩:=z0n hl
  have yl:=hbc.length
  refine ⟨rfl,?_⟩
  refine ⟨_,rfl,c,rfl,⟨ys,(s2.drop hD).sqT hsc⟩,?_⟩
  have hsplit:(ls.take (i+1)).flatMap Lad.ps=(ls.take i).flatMap Lad.ps++l.ps:=by rw [List.take_add_one,el]; simp
  have hle:((ls.take (i+1)).flatMap Lad.ps).length<=900:=by
   have h1:ls.flatMap Lad.ps=(ls.take (i+1)).flatMap Lad.ps++(ls.drop (i+1)).flatMap Lad.ps:=by rw [<- List.flatMap_append,List.take_append_drop]
   rw [h1,List.length_append] at hn
   omega
  refine lcG (walk_tup (xs:=ys)) (fun j H3=>SB [D] H H3/\∃ acc,H3 D=some (.lst acc)/\Bears K H Lad.pEnc acc ((ls.take i).flatMap Lad.ps++l.ps.take j)) ⟨s2,acc,hD2,by simpa using hacc⟩ (fun j H3 hj h3=>(h3.1.drop hD).sqT hsc) (fun j x H3 H4 hj h3 y=>?_) (fun H3 h3=>?_)
  ·obtain ⟨s3,acc3,hD3,hacc3⟩:=h3
   obtain ⟨rfl,ex⟩:=y
   obtain ⟨p,ep,hp⟩:=hbc.get ex
   refine ⟨rfl,?_⟩
   refine ⟨_,rfl,acc3,hD3,?_,s3.trans (SB.set hD3 (by simp) _),_,upd_same,?_⟩
   ·rw [hacc3.length]
    rw [hsplit] at hle
    refine small1000 ?_
    rw [List.length_append,List.length_take] at *
    omega
   ·rw [List.take_add_one,ep,<- List.append_assoc]
    exact Bears.append hacc3 (.cons hp .nil)
  ·obtain ⟨s3,acc3,hD3,hacc3⟩:=h3
   refine ⟨s3,acc3,hD3,?_⟩
   rw [hsplit]
   rw [yl,List.take_length] at hacc3
   exact hacc3
 ·obtain ⟨s2,acc,hD2,hacc⟩:=h2
  rw [xl,List.take_length] at hacc
  have s2':=s2.drop hD
  refine ⟨_,rfl,rfl,D,_,ls.flatMap Lad.ps,rfl,SqL.of hD2,hacc.sb s2' Lad.pEnc_noList,Lad.pEnc_all _,Lad.pEnc_sortable _,by omega,fun p hp=>?_,fun p zs hp hz=>?_⟩
  ·have:=Lad.pEnc_depth p
   obtain ⟨l,hl,hp⟩:=List.mem_flatMap.mp hp
   have:=hd l hl
   have:=l.mem_deep p hp
   omega
  have s3:=SB.new (ps:=[]) hp (.lst zs)
  refine ⟨p,zs,Lad.dsc (ls.flatMap Lad.ps),rfl,SqL.of upd_same,hz.sb s3 Lad.pEnc_noList,?_,fun b hb=>?_,fun c2 ws H3 s4 hc2 hb3=>?_⟩
  ·rw [(Lad.dsc_perm _).length_eq]; omega
  ·refine Lad.shaped_enc ?_
   obtain ⟨l,hl,hp⟩:=List.mem_flatMap.mp ((Lad.dsc_perm _).mem_iff.mp hb)
   have:=hd l hl
   have:=l.mem_deep b hp
   omega
  ·exact q _ _ ((s2'.trans s3).trans s4) (z3j hc2 hb3)
abbrev z93:List Str:=["ladder","many","pair"]
theorem sc_q47:FnScope z93 ["ladder","many"] (defScope z4k):=⟨rfl,rfl,rfl,by decide +kernel,rfl,by decide +kernel,by decide +kernel⟩
theorem zhr (B:BI mg) (F:Fun K "many_of" "many_of" z4k f fd):FnOk P w K mg base CX0 1 f fd ["ladder","many"] (z3k K):=by
 refine F.ok sc_q47 (fun vs H Q E h=>?_) (fun cdv A outer s H vs Q E hr h=>?_)
 ·obtain ⟨v,l,m,rfl,_⟩:=h
  rfl
 obtain ⟨v,l,m,rfl,hv,hp,hsz,hm0,hm1,q⟩:=h
 refine ⟨_,pss_cons (ps_if (pt_cmpR op_eq (pv 1) pe_int (nomark _)) (pss_one (ps_ret (pe_tup pa_nil))) pss_nil)
  (pss_one (ps_ret (pe_callTy call_tuple_of rfl B.tuple boot_tuple (pa_cons
   (pe_lc (own:=[("pair",2)]) (g:=gName 2) (tt:=tYes) (te:=tTup (tCons (tOp (rIxT K) (tVar 2) (tC (.int 0))) (tCons (tOp (rI CMulW fun i j=>.int (i*j)) (tOp (rIxT K) (tVar 2) (tC (.int 1))) (tVar 1)) tNil))) rfl sc_q47.nd (pi_tup (pv 0))
    (blkOk_by (N:=z93) (sc:=defScope z4k) (by decide +kernel))
    (fun _ _ _ _ _=>pg_name (i:=2) sc_q47.nd rfl (.inl rfl))
    (fun _ _ _ _ _=>pts_nil)
    (fun _ _ _ _ _=>pe_tup (pa_cons (pe_ix ix_tup (pv 2) pe_int (fun _ _=>rfl)) (pa_cons (pe_op op_mulW (pe_ix ix_tup (pv 2) pe_int (fun _ _=>rfl)) (pv 1)) pa_nil)))) pa_nil)))),?_⟩
 refine ⟨_,rfl,rfl,_,rfl,?_⟩
 refine ite2 (fun c=>?_) (fun c=>?_)
 ·have c':V.int m=V.int 0:=of_decide_eq_true c
  injection c' with c'
  refine ⟨(by show 0<=sizeLine; decide),fun t ht=>?_⟩
  have e:l.tms m=.nil:=if_pos c'
  exact q _ _ (SB.new ht _) (by rw [e]; exact z18 (SqT.of upd_same))
 ·have c':¬ V.int m=V.int 0:=of_decide_eq_false (Bool.eq_false_iff.mpr c)
  have c2:¬ m=0:=fun z=>c' (by rw [z])
  have e:l.tms m=Lad.ofPs (l.ps.map fun p=>(p.1,p.2*m)):=if_neg c2
  obtain ⟨a,xs,rfl,hsa,hba⟩:=z0n hv
  have xl:=hba.length
  have lp:=l.len_parts
  rw [<- Lad.ps_length] at lp
  refine ⟨_,rfl,a,rfl,⟨xs,hsa⟩,fun D hD=>?_⟩
  refine lc_it (walk_tup (xs:=xs)) (fun i H2=>SB [D] H H2/\∃ acc,H2 D=some (.lst acc)/\Bears K H2 Lad.pEnc acc ((l.ps.take i).map fun p=>(p.1,p.2*m))) ⟨SB.new hD _,[],upd_same,.nil⟩ (fun i H2 hi h2=>(h2.1.drop hD).sqT hsa) (fun i x H2 H' hi h2 y=>?_) (fun H2 h2=>?_)
  ·obtain ⟨s2,acc,hD2,hb2⟩:=h2
   obtain ⟨rfl,ex⟩:=y
   have s2':=s2.drop hD
   obtain ⟨b1,eb,hbd⟩:=hba.get ex
   obtain ⟨ad,ux,rfl,hs2,hla⟩:=z10 hbd
   have bz:=hsz b1 (List.mem_of_getElem? eb)
   have al:=hb2.length
   rw [List.length_map,List.length_take] at al
   refine ⟨rfl,?_⟩
   refine ⟨_,rfl,ad,_,_,_,rfl,rfl,s2'.sqT hs2,atI_nat (j:=0) rfl,_,rfl,ad,_,_,_,rfl,rfl,s2'.sqT hs2,atI_nat (j:=1) rfl,_,rfl,_,_,rfl,rfl,wide_mul (a:=2000) (b:=2000) (by omega) (by omega) (by decide) (by decide) (by decide),(by show 2<=sizeLine; decide),fun t ht=>?_⟩
   have t3:=SB.new (ps:=[D]) ht (.tup [ux,.int (b1.2*m)])
   have hD3:(upd H' t (.tup [ux,.int (b1.2*m)])) D=some (.lst acc):=by rw [upd_ne (ne_of_none hD2 ht)]; exact hD2
   refine ⟨acc,hD3,small1000 (by omega),?_⟩
   have t4:=SB.set (ps:=[D]) hD3 (by simp) (.lst (acc++[.ref t]))
   refine ⟨(s2.trans t3).trans t4,_,upd_same,?_⟩
   rw [List.take_add_one,eb,List.map_append]
   exact Bears.append ((hb2.sb t3 Lad.pEnc_noList).sb t4 Lad.pEnc_noList) (.cons (Dp.tup (t4.sqT (SqT.of upd_same)) (.cons (((hla.sb s2').sb t3).sb t4) (.cons (.int _) .nil))) .nil)
  ·obtain ⟨s2,acc,hD2,hb2⟩:=h2
   rw [xl,List.take_length] at hb2
   refine ⟨D,acc,rfl,.inl ⟨SqL.of hD2,fun t ht=>?_⟩⟩
   have t3:=SB.new (ps:=[]) ht (.tup acc)
   refine q _ _ ((s2.drop hD).trans t3) ?_
   rw [e]
   exact z3j (SqT.of upd_same) (hb2.sb t3 Lad.pEnc_noList)
theorem zi1:FnScope ["ladder"] ["ladder"] (defScope z5j):=⟨rfl,rfl,rfl,by decide +kernel,rfl,by decide +kernel,by decide +kernel⟩
theorem zi5 (F:Fun K "power" "power" z5j f fd):FnOk P w K mg base CX0 1 f fd ["ladder"] (z55 K):=by
 refine F.ok zi1 (fun vs H Q E h=>?_) (fun cdv A outer s H vs Q E hr h=>?_)
 ·obtain ⟨v,l,rfl,_⟩:=h
  rfl
 obtain ⟨v,l,rfl,hv,q⟩:=h
 refine ⟨_,pss_one (ps_ret (pe_tup (pa_cons (pe_tup (pa_cons (pv 0) (pa_cons pe_int pa_nil))) pa_nil))),?_⟩
 refine ⟨_,rfl,(by show 2<=sizeLine; decide),fun p1 h1=>?_⟩
 refine ⟨(by show 1<=sizeLine; decide),fun p2 h2=>?_⟩
 have e1:=SB.new (ps:=[]) h1 (.tup [v,.int 1])
 have e2:=SB.new (ps:=[]) h2 (.tup [.ref p1])
 exact q _ _ (e1.trans e2) (zay (SqT.of upd_same) (e2.sqT (SqT.of upd_same)) ((hv.sb e1).sb e2))
abbrev zf6:List Str:=["one","other","exponent","kept","pair"]
theorem sc_q20:FnScope zf6 ["one","other"] (defScope z40):=⟨rfl,rfl,rfl,by decide +kernel,rfl,by decide +kernel,by decide +kernel⟩
theorem zhv (B:BI mg) (GL:Got P w K mg base "is_less" ["one","other"] 1 (z1t K)) (GN:Got P w K mg base "number" ["many"] 1 (z2c K)) (GW:Got P w K mg base "power" ["ladder"] 1 (z55 K)) (GH:Got P w K mg base "behind" ["one","other"] 2 (z26 K)) (GB:Got P w K mg base "both" ["one","other"] 3 (z8t K)) (F:Fun K "above" "above" z40 f fd):FnOk P w K mg base CX0 4 f fd ["one","other"] (z7k K):=by
 refine F.ok sc_q20 (fun vs H Q E h=>?_) (fun cdv A outer s H vs Q E hr h=>?_)
 ·obtain ⟨v,u,l,k,rfl,_⟩:=h
  rfl
 obtain ⟨v,u,l,k,rfl,hv,hu,hd,hd2,hp,hp2,q⟩:=h
 have hr1:=hr.mono (j:=1) (by decide)
 have hr2:=hr.mono (j:=2) (by decide)
 refine ⟨_,pss_cons (ps_if (pt_not (pt_truth (pv 1) (by intro _; rfl))) (pss_one (ps_ret (z00 GB hr rfl (pa_cons (pv 0) (pa_cons (z00 GN hr1 rfl (pa_cons pe_int pa_nil)) pa_nil))))) pss_nil)
  (pss_cons (ps_set (i:=2) sc_q20.nd rfl (.inr rfl) (pe_ix ix_tup (pe_ix ix_tup (pv 1) pe_int (fun _ _=>rfl)) pe_int (fun _ _=>rfl)))
  (pss_cons (ps_set (i:=3) sc_q20.nd rfl (.inl rfl) (pe_callTy call_tuple_of rfl B.tuple boot_tuple (pa_cons
   (pe_lc (own:=[("pair",4)]) (g:=gName 4) (tt:=tB (tCall (z1t K) [] E0 (tCons (tVar 2) (tCons (tOp (rIxT K) (tVar 4) (tC (.int 0))) tNil)))) (te:=tVar 4) rfl sc_q20.nd (pi_tup (pv 0))
    (blkOk_by (N:=zf6) (sc:=defScope z40) (by decide +kernel))
    (fun _ _ _ _ _=>pg_name (i:=4) sc_q20.nd rfl (.inl rfl))
    (fun _ _ _ _ _=>pts_one (pt_val (z00 GL hr1 rfl (pa_cons (pv 2) (pa_cons (pe_ix ix_tup (pv 4) pe_int (fun _ _=>rfl)) pa_nil)))))
    (fun _ _ _ _ _=>pv 4)) pa_nil)))
  (pss_one (ps_ret (z00 GB hr rfl (pa_cons (pv 3) (pa_cons (z00 GW hr1 rfl (pa_cons (z00 GH hr2 rfl (pa_cons (pv 2) (pa_cons (z00 GN hr1 rfl (pa_cons pe_int pa_nil)) pa_nil))) pa_nil)) pa_nil))))))),?_⟩
 obtain ⟨b,ys,rfl,hsb,hbb⟩:=z0n hu
 refine ⟨_,rfl,_,.inr (.inl ⟨ys,hsb,rfl⟩),?_⟩
 cases k with
 | nil =>
  cases hbb
  refine iteT ?_
  refine ⟨_,rfl,1,rfl,fun n1 H1 s1 hn1=>?_⟩
  rw [Lad.num_one] at hn1
  exact ⟨v,n1,l,Lad.uno,rfl,hv.sb s1,hn1,by omega,by decide,by omega,by decide,fun x H' s2 hx=>q x H' (s1.trans s2) hx⟩
 | cons e m r =>
  rw [show (Lad.cons e m r).ps=(e,m)::r.ps from rfl] at hbb
  cases hbb with
  | @cons y0 yr _ _ h0 hbr =>
  refine iteF ?_
  obtain ⟨c,ue,rfl,hsc,hle⟩:=z10 h0
  refine ⟨_,rfl,b,_,_,_,rfl,rfl,hsb,atI_nat (j:=0) rfl,c,_,_,_,rfl,rfl,hsc,atI_nat (j:=0) rfl,?_⟩
  obtain ⟨a,xs,rfl,hsa,hba⟩:=z0n hv
  have bl:=hba.length
  have lp:=l.len_parts
  rw [<- Lad.ps_length] at lp
  have ed:e.deep < (Lad.cons e m r).deep:=Lad.mem_deep (.cons e m r) (e,m) (mcs ..)
  have ep:e.parts<=(Lad.cons e m r).parts:=by show e.parts<=1+e.parts+r.parts; omega
  refine ⟨_,rfl,a,rfl,⟨xs,hsa⟩,fun D hD=>?_⟩
  refine lc_it (walk_tup (xs:=xs)) (fun i H2=>SB [D] H H2/\∃ acc,H2 D=some (.lst acc)/\Bears K H2 Lad.pEnc acc ((l.ps.take i).filter fun p=>e.lt p.1)) ⟨SB.new hD _,[],upd_same,.nil⟩ (fun i H2 hi h2=>(h2.1.drop hD).sqT hsa) (fun i x H2 H' hi h2 y=>?_) (fun H2 h2=>?_)
  ·obtain ⟨s2,acc,hD2,hb2⟩:=h2
   obtain ⟨rfl,ex⟩:=y
   have s2':=s2.drop hD
   obtain ⟨b1,eb,hbd⟩:=hba.get ex
   obtain ⟨ad,ux,rfl,hs2,hla⟩:=z10 hbd
   refine ⟨rfl,?_⟩
   refine ⟨_,rfl,_,rfl,ad,_,_,_,rfl,rfl,s2'.sqT hs2,atI_nat (j:=0) rfl,ue,ux,e,b1.1,rfl,hle.sb s2',hla.sb s2',by omega,_,rfl,?_⟩
   have al:=hb2.length
   have fl:=List.length_filter_le (fun p:Lad × Int=>e.lt p.1) (l.ps.take i)
   rw [List.length_take] at fl
   cases hc:e.lt b1.1 with
   | true =>
    refine iteT ?_
    refine ⟨_,rfl,acc,hD2,small1000 (by omega),?_⟩
    have t9:=SB.set (ps:=[D]) hD2 (by simp) (.lst (acc++[.ref ad]))
    refine ⟨s2.trans t9,_,upd_same,?_⟩
    rw [List.take_add_one,eb,List.filter_append]
    refine Bears.append (hb2.sb t9 Lad.pEnc_noList) ?_
    have:([b1]:List (Lad × Int)).filter (fun p=>e.lt p.1)=[b1]:=by simp [hc]
    show Bears K _ Lad.pEnc _ (([b1]:List (Lad × Int)).filter (fun p=>e.lt p.1))
    rw [this]
    exact .cons (z0e t9 _ _ (Lad.pEnc_noList _) (z0e s2' _ _ (Lad.pEnc_noList _) hbd)) .nil
   | false =>
    refine iteF ?_
    refine ⟨s2,acc,hD2,?_⟩
    rw [List.take_add_one,eb,List.filter_append]
    simpa [hc] using hb2
  ·obtain ⟨s2,acc,hD2,hb2⟩:=h2
   rw [bl,List.take_length] at hb2
   have s2':=s2.drop hD
   refine ⟨D,acc,rfl,.inl ⟨SqL.of hD2,fun kt hkt=>?_⟩⟩
   have s3:=SB.new (ps:=[]) hkt (.tup acc)
   have s23:=s2'.trans s3
   have kept:LA K (upd H2 kt (.tup acc)) (.ref kt) (Lad.ofPs (l.ps.filter fun p=>e.lt p.1)):=z3j (SqT.of upd_same) (hb2.sb s3 Lad.pEnc_noList)
   refine ⟨_,rfl,_,rfl,1,rfl,fun n1 H4 s4 hn1=>?_⟩
   rw [Lad.num_one] at hn1
   refine ⟨ue,n1,e,Lad.uno,rfl,(hle.sb s23).sb s4,hn1,by omega,by decide,by omega,by decide,fun x1 H5 s5 hx1=>?_⟩
   refine ⟨x1,_,rfl,hx1,fun x2 H6 s6 hx2=>?_⟩
   have b1:=Lad.bhd_parts e Lad.uno
   have b2:=Lad.bhd_deep (n:=24) (l:=e) (k:=Lad.uno) (by omega) (by decide)
   have b3:=Lad.filter_parts l fun p=>e.lt p.1
   have b4:Lad.uno.parts=1:=rfl
   refine ⟨.ref kt,x2,_,_,rfl,((kept.sb s4).sb s5).sb s6,hx2,Nat.le_trans (Lad.filter_deep _ hd) (by decide),by show max (1+(Lad.bhd e Lad.uno).deep) 0<=25; omega,by omega,by show 1+(Lad.bhd e Lad.uno).parts+0<=400; omega,fun x H' s7 hx=>?_⟩
   exact q x H' (((s23.trans s4).trans s5).trans (s6.trans s7)) hx
theorem zh4:FnScope ["one","other"] ["one","other"] (defScope z5y):=⟨rfl,rfl,rfl,by decide +kernel,rfl,by decide +kernel,by decide +kernel⟩
theorem ziv (GW:Got P w K mg base "power" ["ladder"] 1 (z55 K)) (GH:Got P w K mg base "behind" ["one","other"] 2 (z26 K)) (F:Fun K "spread" "spread" z5y f fd):FnOk P w K mg base CX0 3 f fd ["one","other"] (z6c K):=by
 refine F.ok zh4 (fun vs H Q E h=>?_) (fun cdv A outer s H vs Q E hr h=>?_)
 ·obtain ⟨v,u,e,m,r,k,rfl,_⟩:=h
  rfl
 obtain ⟨v,u,e,m,r,k,rfl,hv,hu,hd,hd2,hp,hp2,q⟩:=h
 have hr1:=hr.mono (j:=1) (by decide)
 refine ⟨_,pss_cons (ps_if (pt_not (pt_truth (pv 1) (by intro _; rfl))) (pss_one (ps_ret (pv 0))) pss_nil)
  (pss_one (ps_ret (z00 GW hr1 rfl (pa_cons (z00 GH hr rfl (pa_cons (pe_ix ix_tup (pe_ix ix_tup (pv 0) pe_int (fun _ _=>rfl)) pe_int (fun _ _=>rfl)) (pa_cons (pv 1) pa_nil))) pa_nil)))),?_⟩
 obtain ⟨b,ys,rfl,hsb,hbb⟩:=z0n hu
 refine ⟨_,rfl,_,.inr (.inl ⟨ys,hsb,rfl⟩),?_⟩
 cases k with
 | nil =>
  cases hbb
  refine iteT ?_
  exact ⟨_,rfl,q v H SB.refl hv⟩
 | cons e2 m2 r2 =>
  rw [show (Lad.cons e2 m2 r2).ps=(e2,m2)::r2.ps from rfl] at hbb
  cases hbb with
  | @cons y0 yr _ _ h0 hbr =>
  refine iteF ?_
  obtain ⟨a,xs,rfl,hsa,hba⟩:=z0n hv
  rw [show (Lad.cons e m r).ps=(e,m)::r.ps from rfl] at hba
  cases hba with
  | @cons x0 xr _ _ g0 gbr =>
  obtain ⟨c,ue,rfl,hsc,hle⟩:=z10 g0
  have ed:e.deep < (Lad.cons e m r).deep:=Lad.mem_deep (.cons e m r) (e,m) (mcs ..)
  have ep:e.parts<=(Lad.cons e m r).parts:=by show e.parts<=1+e.parts+r.parts; omega
  refine ⟨_,rfl,a,_,_,_,rfl,rfl,hsa,atI_nat (j:=0) rfl,c,_,_,_,rfl,rfl,hsc,atI_nat (j:=0) rfl,_,rfl,ue,_,e,_,rfl,hle,hu,by omega,by omega,by omega,by omega,fun x1 H1 s1 hx1=>?_⟩
  exact ⟨x1,_,rfl,hx1,fun x H' s2 hx=>q x H' (s1.trans s2) hx⟩
abbrev zjs:List Str:=["book","name","found"]
theorem sc_q49:FnScope zjs ["book","name"] (defScope z5r):=⟨rfl,rfl,rfl,by decide +kernel,rfl,by decide +kernel,by decide +kernel⟩
theorem zh8 {C_Endless C_Book C_NoKind:Addr} (B:BI mg) (O_Endless:OwnI P w K mg base "Endless" C_Endless 1) (G_q27:GotX P w K mg base "check_kind" ["book","name"] (3) (z28 K C_Book C_NoKind)) (G_q50:Got P w K mg base "own_ranks" ["book"] (47) (z1u K C_Book C_NoKind)) (F:Fun K "own_rank" "own_rank" z5r f fd):FnOk P w K mg base (L2.CX P w) (74) f fd ["book","name"] (z2h K C_Book C_NoKind C_Endless):=by
 refine F.okX sc_q49 (fun vs H Q E h=>?_) (fun cdv A outer s H vs Q E hr h=>?_)
 ·obtain ⟨v,b,ρ,n,rfl,_⟩:=h
  rfl
 obtain ⟨v,b,ρ,n,rfl,hv,ok,ow,hn,qk,qE⟩:=h
 have hun2:=hunT hr
 refine ⟨_,pss_cons (ps_expr (z34 G_q27 (hr.mono (by omega)) rfl (takes_of rfl rfl rfl rfl) (pa_cons (pv 0) (pa_cons (pv 1) pa_nil))))
  (pss_cons (ps_set (i:=2) sc_q49.nd rfl (.inl rfl) (z00 G_q50 (hr.mono (by omega)) rfl (pa_cons (pv 0) pa_nil)))
  (pss_cons (ps_if (pt_cmp (pc_dnotin (by show A.units+3+1 < cLine; omega) (pv 1) (pv 2))) (pss_one (ps_raise rfl (takes_of rfl rfl rfl rfl) (z6g O_Endless (hr.mono (by omega)) rfl (pv 1)))) pss_nil)
  (pss_one (ps_ret (pe_dget (by show A.units+3+1 < cLine; omega) (pv 2) (pv 1) (fun _ _=>rfl)))))),?_⟩
 have b8:=ok.len
 obtain ⟨kd,eg⟩:=Bk.get_of hn
 refine ⟨_,rfl,_,rfl,v,b,n,rfl,hv,by omega,fun k' e' H1 s1=>?_,fun z=>by rw [eg] at z; cases z⟩
 refine ⟨_,rfl,v,b,ρ,rfl,hv.sb0 s1,ok,ow,fun d es H2 s2 nd hw eo=>?_⟩
 have s02:=s1.trans s2
 by_cases he:EndK b n
 ·have hm:=(eo.mem n).mpr ⟨hn,he⟩
  obtain ⟨u,hu,hul⟩:=hw.val hm
  refine ⟨_,rfl,_,rfl,d,_,rfl,hu,_,rfl,iteF ?_⟩
  exact ⟨_,rfl,_,rfl,d,u,rfl,hu,qk he u H2 s02 hul⟩
 ·have hm:n ∉ es:=fun z=>he ((eo.mem n).mp z).2
  refine ⟨_,rfl,_,rfl,d,_,rfl,hw.none hm,_,rfl,iteT ?_⟩
  refine ⟨_,rfl,fun x nx=>?_⟩
  exact qE he x _ (s02.trans (SB.new nx _)) (s02.dom _ nx) upd_same
abbrev zem:List Str:=["book","found","name","rule"]
theorem sc_q50:FnScope zem ["book"] (defScope z46):=⟨rfl,rfl,rfl,by decide +kernel,rfl,by decide +kernel,by decide +kernel⟩
theorem zgu {C_Book C_NoKind:Addr} (B:BI mg) (G_q29:Got P w K mg base "ending_kinds" ["book"] (24) (z2m K C_Book C_NoKind)) (G_q55:GotX P w K mg base "rules_from_nought" ["book","name"] (5) (z6n K C_Book C_NoKind)) (G_q28:Got P w K mg base "climb" ["book","worths","rule"] (46) (z5f K C_Book)) (F:Fun K "own_ranks" "own_ranks" z46 f fd):FnOk P w K mg base CX0 (47) f fd ["book"] (z1u K C_Book C_NoKind):=by
 refine F.ok sc_q50 (fun vs H Q E h=>?_) (fun cdv A outer s H vs Q E hr h=>?_)
 ·obtain ⟨v,b,ρ,rfl,_⟩:=h
  rfl
 obtain ⟨v,b,ρ,rfl,hv,ok,ow,q⟩:=h
 have hun2:=hunT hr
 refine ⟨_,pss_cons (ps_set (i:=1) sc_q50.nd rfl (.inr rfl) pe_dnewK)
  (pss_cons (ps_for PassesOwn.never rfl (pi_list (z00 G_q29 (hr.mono (by omega)) rfl (pa_cons (pv 0) pa_nil))) (pg_name (i:=2) sc_q50.nd rfl (.inl rfl))
   (pss_one (ps_dput (by show A.units+3+1 < cLine; omega) (pv 1) (pv 2) (pe_callB (zgi rfl (by show A.units+3+110 < cLine; omega)) rfl B.max boot_max (pa_cons (pe_lc (own:=[("rule",3)]) (g:=(gName 3)) (tt:=tYes) (te:=(tCall (z5f K C_Book) [] E0 (tCons (tVar 0) (tCons (tVar 1) (tCons (tVar 3) tNil))))) rfl sc_q50.nd (pi_list (z2v G_q55 (hr.mono (by omega)) rfl (pa_cons (pv 0) (pa_cons (pv 2) pa_nil)))) (blkOk_by (N:=zem) (sc:=defScope z46) (by decide +kernel)) (fun _ _ _ _ _=>(pg_name (i:=3) sc_q50.nd rfl (.inl rfl))) (fun _ _ _ _ _=>pts_nil) (fun _ _ _ _ _=>(z00 G_q28 (hr.mono (by omega)) rfl (pa_cons (pv 0) (pa_cons (pv 1) (pa_cons (pv 3) pa_nil)))))) pa_nil)) rfl)))
  (pss_one (ps_ret (pv 1)))),?_⟩
 have szl:=sizeLine_eq
 have b8:=ok.len
 intro D nD
 have t1:=SB.new (ps:=[]) nD (.dK [])
 have hD1:upd H D (.dK []) D=some (.dK []):=upd_same
 generalize upd H D (.dK [])=H1 at t1 hD1
 refine ⟨_,rfl,v,b,rfl,hv.sb0 t1,ok,fun l es H2 s2 nl hl eo=>?_⟩
 have e8:=eo.len
 refine ⟨l,rfl,⟨_,SqL.of hl⟩,?_⟩
 have Dl:D ≠ l:=fun z=>by rw [<- z,hD1] at nl; cases nl
 refine for_it (walk_list (xs:=es.map V.str)) (fun i σ H3=>SB [D] H2 H3/\(∃ o2:Option V,σ=[some v,some (.ref D),o2,none])/\RkD K H3 D ρ (es.take i)) ⟨SB.refl,⟨none,rfl⟩,[],s2.keep _ _ hD1 nmn,.nil⟩ (fun i σ H3 hi h3=>h3.1.sqL (by simpa using fun z=>Dl z.symm) (SqL.of hl)) (fun i x σ Hq H3 hi h3 y=>?_) (fun σ H3 h3=>?_)
 ·obtain ⟨s3,⟨o2,rfl⟩,hR⟩:=h3
  obtain ⟨rfl,ey⟩:=y
  rw [List.getElem?_map] at ey
  obtain ⟨n,en,rfl⟩:=Option.map_eq_some_iff.mp ey
  have s03:SB [] H H3:=((t1.trans s2).nil.trans s3).drop nD
  have hn:=(eo.mem n).mp (List.mem_of_getElem? en)
  obtain ⟨kd,eg⟩:=Bk.get_of hn.1
  obtain ⟨km,rfl⟩:=Bk.get_some eg
  obtain ⟨kn,r4,rr⟩:=ok.kd kd km
  refine ⟨_,rfl,_,rfl,v,b,kd.n,rfl,hv.sb0 s03,by omega,fun k hk=>Nat.le_trans (ok.kd k hk).2.1 (by decide),fun k' e' ll us H4 s4 nll hll hbl=>?_,fun z=>by rw [eg] at z; cases z⟩
  rw [eg] at e'
  cases e'
  have ul:=hbl.length
  have Dll:D ≠ ll:=fun z=>by
   obtain ⟨_,h1,_⟩:=hR
   rw [<- z,h1] at nll; cases nll
  have hR4:=hR.sb0 s4
  have s04:=s03.trans s4
  refine ⟨ll,rfl,⟨_,SqL.of hll⟩,fun D2 nD2=>?_⟩
  refine z0f (walk_list (xs:=us)) nD2 (by rw [ul,List.length_cons]; omega) (fun j ws H5=>Bears K H5 Lad.enc ws (((noR::kd.rs).take j).map (clm b ρ))) .nil (fun H5 s5=>s5.sqL nmn (SqL.of hll)) (fun j ws H5 H6 s6 h=>h.sb s6 Lad.noList_enc) (fun Pv j x Hq H5 ws hj s5 y hR5 hu5 fin skip=>?_) (fun ws H5 s5 hD5 hR5 hu5=>?_)
  ·obtain ⟨rfl,ey⟩:=y
   obtain ⟨r,er,hrd⟩:=hbl.get ey
   have rm:=List.mem_of_getElem? er
   have rf:RFit b ρ (es.take i) r:=by
    rcases List.mem_cons.mp rm with rfl | rm
    ·exact z9f b ρ _
    ·exact ow.fit kd km hn.2 _ (fun n h=>eo.ord i _ en n h) r rm
   have rp:r.1.parts+r.2.parts<=4:=by
    rcases List.mem_cons.mp rm with rfl | rm
    ·decide
    ·exact (rr r rm).1.2.2
   have rd1:=z07 r.1
   have rd2:=z07 r.2
   refine ⟨rfl,_,rfl,_,rfl,_,rfl,v,x,D,b,ρ,es.take i,r,rfl,(hv.sb0 s04).sb0 s5,by omega,hR4.sb0 s5,z0e s5 _ _ (Ru.noList_enc _) hrd,by omega,by omega,by omega,by omega,rf,fun z H6 s6 hz=>fin z H6 s6 ?_⟩
   rw [List.take_add_one,er,List.map_append]
   exact (hR5.sb s6 Lad.noList_enc).append (.cons hz .nil)
  ·rw [ul,List.take_length,List.map_cons,show clm b ρ noR=Lad.uno from z4p b ρ] at hR5
   have hR6:=hR4.sb0 s5
   refine ⟨D2,ws,Lad.uno,kd.rs.map (clm b ρ),rfl,SqL.of hD5,hR5,fun l hl'=>?_,fun x hx=>?_⟩
   ·rcases List.mem_cons.mp hl' with rfl | hl'
    ·decide
    ·obtain ⟨r,rm,rfl⟩:=List.mem_map.mp hl'
     exact ow.deep kd km hn.2 r rm
   rw [<- ow.own kd km hn.2] at hx
   have fresh:kd.n ∉ es.take i:=fun z=>by
    obtain ⟨j,hj,ej⟩:=List.getElem_of_mem z
    rw [List.getElem_take] at ej
    rw [List.length_take] at hj
    have e2:=List.getElem_of_getElem? en
    obtain ⟨hi2,e2⟩:=e2
    exact List.pairwise_iff_getElem.mp eo.nd j i (by omega) hi2 (by omega) (ej.trans e2.symm)
   obtain ⟨H6,hput,s6,hR7⟩:=hR6.put fresh (by rw [List.length_take]; omega) hx
   refine ⟨_,rfl,_,rfl,D,H6,rfl,hput,?_,⟨_,rfl⟩,?_⟩
   ·exact (s3.trans (s4.trans s5).nil).trans s6
   ·rw [List.take_add_one,en]
    exact hR7
 ·obtain ⟨s3,⟨o2,rfl⟩,hR⟩:=h3
  rw [List.length_map,List.take_length] at hR
  exact ⟨_,rfl,q D es _ (((t1.trans s2).nil.trans s3).drop nD) nD hR eo⟩
abbrev zj9:List Str:=["book","worths","rule","once","each"]
theorem sc_q28:FnScope zj9 ["book","worths","rule"] (defScope z5e):=⟨rfl,rfl,rfl,by decide +kernel,rfl,by decide +kernel,by decide +kernel⟩
theorem zgr {C_Book:Addr} (B:BI mg) (G_q20:Got P w K mg base "above" ["one","other"] (4) (z7k K)) (G_q53:Got P w K mg base "reckoned" ["book","worths","grove"] (45) (z31 K C_Book 20)) (F:Fun K "climb" "climb" z5e f fd):FnOk P w K mg base CX0 (46) f fd ["book","worths","rule"] (z5f K C_Book):=by
 refine F.ok sc_q28 (fun vs H Q E h=>?_) (fun cdv A outer s H vs Q E hr h=>?_)
 ·obtain ⟨v,u,d,b,ρ,ns,r,rfl,_⟩:=h
  rfl
 obtain ⟨v,u,d,b,ρ,ns,r,rfl,hv,hl,hw,hu,d1,d2,p1,p2,hfit,q⟩:=h
 have hun2:=hunT hr
 refine ⟨_,pss_cons (ps_asg (pv 2) (pg_tup rfl (pgs_cons (pg_name (i:=3) sc_q28.nd rfl (.inl rfl)) (pgs_cons (pg_name (i:=4) sc_q28.nd rfl (.inl rfl)) pgs_nil))))
  (pss_one (ps_ret (z00 G_q20 (hr.mono (by omega)) rfl (pa_cons (z00 G_q53 (hr.mono (by omega)) rfl (pa_cons (pv 0) (pa_cons (pv 1) (pa_cons (pv 3) pa_nil)))) (pa_cons (z00 G_q53 (hr.mono (by omega)) rfl (pa_cons (pv 0) (pa_cons (pv 1) (pa_cons (pv 4) pa_nil)))) pa_nil))))),?_⟩
 cases hu with
 | @tup ad us' _ hs' hda =>
 cases hda with
 | cons g1 hda =>
 cases hda with
 | cons g2 hda =>
 cases hda
 obtain ⟨h1,h2,h3,h4,h5,h6⟩:=hfit
 refine ⟨_,rfl,ad,_,rfl,hs',rfl,_,_,rfl,_,_,rfl,rfl,?_⟩
 refine ⟨_,rfl,_,rfl,_,rfl,v,_,d,b,ρ,ns,r.1,rfl,hv,hl,hw,g1,d1,h1,p1,fun x1 H1 s1 hx1=>?_⟩
 refine ⟨_,rfl,_,rfl,_,rfl,v,_,d,b,ρ,ns,r.2,rfl,hv.sb0 s1,hl,hw.sb0 s1,GA.sb g2 s1,d2,h2,p2,fun x2 H2 s2 hx2=>?_⟩
 exact ⟨x1,x2,_,_,rfl,hx1.sb s2,hx2,h3,h4,h5,h6,fun x H' s hx=>q x H' ((s1.trans s2).trans s) hx⟩
abbrev zex:List Str:=["book","worths","grove","tree","many"]
theorem sc_q53:FnScope zex ["book","worths","grove"] (defScope z3y):=⟨rfl,rfl,rfl,by decide +kernel,rfl,by decide +kernel,by decide +kernel⟩
theorem zh7 {n:Nat} {C_Book:Addr} (B:BI mg) (G_q22:Got P w K mg base "all_together" ["some"] (2) (z71 K)) (G_q47:Got P w K mg base "many_of" ["ladder","many"] (1) (z3k K)) (G_q54:Got P w K mg base "reckoned_tree" ["book","worths","tree"] (2*n+6) (z2x K C_Book n)) (F:Fun K "reckoned" "reckoned" z3y f fd):FnOk P w K mg base CX0 (2*n+7) f fd ["book","worths","grove"] (z31 K C_Book (n+1)):=by
 refine F.ok sc_q53 (fun vs H Q E h=>?_) (fun cdv A outer s H vs Q E hr h=>?_)
 ·obtain ⟨v,u,d,b,ρ,ns,g,rfl,_⟩:=h
  rfl
 obtain ⟨v,u,d,b,ρ,ns,g,rfl,hv,hl,hw,hg,hgd,hfit,hp,q⟩:=h
 have hun2:=hunT hr
 refine ⟨_,pss_one (ps_ret (z00 G_q22 (hr.mono (by omega)) rfl (pa_cons (pe_lc (own:=[("tree",3),("many",4)]) (g:=(gTup K 2 (gCons (gName 3) (gCons (gName 4) gNil)))) (tt:=tYes) (te:=(tCall (z3k K) [] E0 (tCons (tCall (z2x K C_Book n) [] E0 (tCons (tVar 0) (tCons (tVar 1) (tCons (tVar 3) tNil)))) (tCons (tVar 4) tNil)))) rfl sc_q53.nd (pi_tup (pv 2)) (blkOk_by (N:=zex) (sc:=defScope z3y) (by decide +kernel)) (fun _ _ _ _ _=>(pg_tup rfl (pgs_cons (pg_name (i:=3) sc_q53.nd rfl (.inl rfl)) (pgs_cons (pg_name (i:=4) sc_q53.nd rfl (.inl rfl)) pgs_nil)))) (fun _ _ _ _ _=>pts_nil) (fun _ _ _ _ _=>(z00 G_q47 (hr.mono (by omega)) rfl (pa_cons (z00 G_q54 (hr.mono (by omega)) rfl (pa_cons (pv 0) (pa_cons (pv 1) (pa_cons (pv 3) pa_nil)))) (pa_cons (pv 4) pa_nil))))) pa_nil))),?_⟩
 obtain ⟨a,xs,rfl,hs,hb⟩:=z1m hg
 have xl:=hb.length
 have lp:=g.len_parts
 have szl:=sizeLine_eq
 refine ⟨_,rfl,a,rfl,⟨xs,hs⟩,fun D hD=>?_⟩
 refine z0f (walk_tup (xs:=xs)) hD (by omega) (fun i us H2=>Bears K H2 Lad.enc us ((g.ps.take i).map fun p:Tr × Int=>Lad.tms (Gr.rkt b ρ p.1) p.2)) .nil (fun H2 s2=>s2.sqT hs) (fun i us H2 H3 s3 h=>h.sb s3 Lad.noList_enc) (fun Pv i x Hq H2 us hi s2 y hR hu fin skip=>?_) (fun us H2 s2 hD2 hR hu=>?_)
 ·obtain ⟨rfl,ey⟩:=y
  obtain ⟨p,ep,hpd⟩:=hb.get ey
  have pm:=List.mem_of_getElem? ep
  obtain ⟨ad,td,ux,rfl,hs2,hs3,hga,htd⟩:=z0x hpd
  obtain ⟨⟨f1,f2,f3,f4,f5,f6,f7,f8⟩,f9⟩:=hfit.at p pm
  have pd:=g.mem_deep p pm
  have pp:=g.mem_parts p pm
  refine ⟨ad,_,rfl,s2.sqT hs2,rfl,_,_,rfl,_,_,rfl,rfl,rfl,?_⟩
  refine ⟨_,rfl,_,rfl,_,rfl,v,.ref td,d,b,ρ,ns,p.1.1,p.1.2,rfl,hv.sb0 s2,hl,hw.sb0 s2,z0e s2 _ _ (Gr.noList_tEnc _) htd,by omega,⟨f1,f2,f3,f4,f5⟩,f9,by omega,fun x H3 s3 hx=>?_⟩
  refine ⟨_,rfl,x,_,p.2,rfl,hx,f6.parts,f6.num,f7,f8,fun y H4 s4 hy=>fin y H4 (s3.trans s4) ?_⟩
  rw [List.take_add_one,ep,List.map_append]
  exact (hR.sb (s3.trans s4) Lad.noList_enc).append (.cons hy .nil)
 ·rw [xl,List.take_length,<- Gr.rkT_ps] at hR
  refine ⟨D,us,Gr.rkT b ρ g,rfl,SqL.of hD2,hR,fun l hm=>?_,hfit.len,fun x H' s hx=>q x H' (s2.trans s) hx⟩
  rw [Gr.rkT_ps] at hm
  obtain ⟨p,pm,rfl⟩:=List.mem_map.mp hm
  exact Lad.tms_deep _ (hfit.at p pm).1.2.2.2.2.2.1.deep
abbrev zja:List Str:=["book","worths","tree","kind","held"]
theorem sc_q54:FnScope zja ["book","worths","tree"] (defScope z5p):=⟨rfl,rfl,rfl,by decide +kernel,rfl,by decide +kernel,by decide +kernel⟩
theorem zbk {n:Nat} {C_Book:Addr} (B:BI mg) (G_q42:Got P w K mg base "laden" ["book","kind","own","inner"] (5) (z7h K C_Book)) (G_q53:Got P w K mg base "reckoned" ["book","worths","grove"] (2*n+5) (z31 K C_Book n)) (F:Fun K "reckoned_tree" "reckoned_tree" z5p f fd):FnOk P w K mg base CX0 (2*n+6) f fd ["book","worths","tree"] (z2x K C_Book n):=by
 refine F.ok sc_q54 (fun vs H Q E h=>?_) (fun cdv A outer s H vs Q E hr h=>?_)
 ·obtain ⟨v,t,d,b,ρ,ns,k,g,rfl,_⟩:=h
  rfl
 obtain ⟨v,t,d,b,ρ,ns,k,g,rfl,hv,hl,hw,ht,hgd,⟨kn,kb,kne,fk,fg⟩,hfit,hp,q⟩:=h
 have hun2:=hunT hr
 refine ⟨_,pss_cons (ps_asg (pv 2) (pg_tup rfl (pgs_cons (pg_name (i:=3) sc_q54.nd rfl (.inl rfl)) (pgs_cons (pg_name (i:=4) sc_q54.nd rfl (.inl rfl)) pgs_nil))))
  (pss_one (ps_ret (z00 G_q42 (hr.mono (by omega)) rfl (pa_cons (pv 0) (pa_cons (pv 3) (pa_cons (pe_dget (by show A.units+3+1 < cLine; omega) (pv 1) (pv 3) (fun _ _=>rfl)) (pa_cons (z00 G_q53 (hr.mono (by omega)) rfl (pa_cons (pv 0) (pa_cons (pv 1) (pa_cons (pv 4) pa_nil)))) pa_nil))))))),?_⟩
 obtain ⟨a,u,rfl,hs,hga⟩:=z8x ht
 obtain ⟨ux,hux,hul⟩:=hw.val kn
 refine ⟨_,rfl,a,_,rfl,hs,rfl,_,_,rfl,_,_,rfl,rfl,?_⟩
 refine ⟨_,rfl,_,rfl,_,rfl,_,rfl,d,ux,rfl,hux,?_⟩
 refine ⟨_,rfl,_,rfl,_,rfl,v,u,d,b,ρ,ns,g,rfl,hv,hl,hw,hga,hgd,hfit,hp,fun x H1 s1 hx=>?_⟩
 exact ⟨v,ux,x,b,k,ρ k,Gr.rk b ρ g,rfl,hv.sb0 s1,hl,kb,⟨hul.sb s1,kne,fk⟩,⟨hx,fg⟩,fun y H2 s2 hy=>q y H2 (s1.trans s2) hy⟩
abbrev zjl:List Str:=["book","kind","own","inner"]
theorem zic:FnScope zjl ["book","kind","own","inner"] (defScope z5z):=⟨rfl,rfl,rfl,by decide +kernel,rfl,by decide +kernel,by decide +kernel⟩
theorem zi7 {C_Book C_NoKind:Addr} (B:BI mg) (G_q3:z4f P w K mg base C_Book "spreads" ["self","name"] (4) (z44 K C_Book C_NoKind)) (G_q59:Got P w K mg base "spread" ["one","other"] (3) (z6c K)) (G_q25:Got P w K mg base "behind" ["one","other"] (2) (z26 K)) (F:Fun K "laden" "laden" z5z f fd):FnOk P w K mg base CX0 (5) f fd ["book","kind","own","inner"] (z7h K C_Book):=by
 refine F.ok zic (fun vs H Q E h=>?_) (fun cdv A outer s H vs Q E hr h=>?_)
 ·obtain ⟨v,u,t,b,n,o,l,rfl,_⟩:=h
  rfl
 obtain ⟨v,u,t,b,n,o,l,rfl,hv,hl,hn,⟨hu,hne,fo⟩,⟨ht,fl⟩,q⟩:=h
 have hun2:=hunT hr
 refine ⟨_,pss_cons (ps_if (pt_val (zc0 G_q3 (hr.mono (by omega)) (pv 0) (pa_cons (pv 1) pa_nil))) (pss_one (ps_ret (z00 G_q59 (hr.mono (by omega)) rfl (pa_cons (pv 2) (pa_cons (pv 3) pa_nil))))) pss_nil)
  (pss_one (ps_ret (z00 G_q25 (hr.mono (by omega)) rfl (pa_cons (pv 2) (pa_cons (pv 3) pa_nil))))),?_⟩
 obtain ⟨va,vdx,vd1,vd2,rfl,hva⟩:=hv.at
 obtain ⟨kd,eg⟩:=Bk.get_of hn
 refine ⟨_,rfl,va,vdx,_,rfl,hva,rfl,_,rfl,?_⟩
 refine ⟨_,b,n,rfl,hv,hl,fun k' e' H1 s1=>?_,fun z=>by rw [eg] at z; cases z⟩
 rw [eg] at e'
 cases e'
 refine ⟨_,rfl,?_⟩
 have hwd:b.wide n=kd.w:=Bk.wide_get eg
 cases hk:kd.w with
 | true =>
  refine iteT ⟨_,rfl,_,rfl,?_⟩
  cases o with
  | nil=>exact absurd rfl hne
  | cons e m r =>
  refine ⟨u,t,e,m,r,l,rfl,hu.sb s1,ht.sb s1,Nat.le_trans fo.deep (by decide),Nat.le_trans fl.deep (by decide),fo.parts,fl.parts,fun x H' s2 hx=>q x H' (s1.trans s2) ?_⟩
  rw [hwd,hk]
  exact hx
 | false =>
  refine iteF ⟨_,rfl,_,rfl,?_⟩
  refine ⟨u,t,o,l,rfl,hu.sb s1,ht.sb s1,Nat.le_trans fo.deep (by decide),Nat.le_trans fl.deep (by decide),fo.parts,fl.parts,fun x H' s2 hx=>q x H' (s1.trans s2) ?_⟩
  rw [hwd,hk]
  exact hx
abbrev z89:List Str:=["ladder","exponents","exponent","many"]
theorem sc_q58:FnScope z89 ["ladder"] (defScope z1x):=⟨rfl,rfl,rfl,by decide +kernel,rfl,by decide +kernel,by decide +kernel⟩
theorem zcb {ps:List Str} {k:Nat}:FnOk P w K mg base CX0 k f fd ps (z12 K 0):=z16 fun vs H Q E ⟨v,l,_,_,h,_⟩=>by omega
theorem zhw {n:Nat} (B:BI mg) (G_q33:Got P w K mg base "is_less" ["one","other"] (1) (z1t K)) (G_q48:Got P w K mg base "number" ["many"] (1) (z2c K)) (G_q58:Got P w K mg base "sort_of" ["ladder"] (n+1) (z12 K n)) (F:Fun K "sort_of" "sort_of" z1x f fd):FnOk P w K mg base CX0 (n+2) f fd ["ladder"] (z12 K (n+1)):=by
 refine F.ok sc_q58 (fun vs H Q E h=>?_) (fun cdv A outer s H vs Q E hr h=>?_)
 ·obtain ⟨v,l,rfl,_⟩:=h
  rfl
 obtain ⟨v,l,rfl,hv,hd,hd45,hp,q⟩:=h
 have hun2:=hunT hr
 refine ⟨_,pss_cons (ps_setLc (i:=1) (own:=[("exponent",2),("many",3)]) (g:=(gTup K 2 (gCons (gName 2) (gCons (gName 3) gNil)))) (tt:=tYes) (te:=(tVar 2)) rfl sc_q58.nd rfl rfl (sw_true rfl rfl rfl (by decide +kernel)) (pi_tup (pv 0)) (blkOk_by (N:=z89) (sc:=defScope z1x) (by decide +kernel)) (fun _ _ _ _ _=>(pg_tup rfl (pgs_cons (pg_name (i:=2) sc_q58.nd rfl (.inl rfl)) (pgs_cons (pg_name (i:=3) sc_q58.nd rfl (.inl rfl)) pgs_nil)))) (fun _ _ _ _ _=>pts_nil) (fun _ _ _ _ _=>(pv 2)))
  (pss_cons (ps_if (pt_not (pt_val (pe_callB (zgg rfl) rfl B.any boot_any (pa_cons (pv 1) pa_nil)))) (pss_one (ps_ret pe_str)) pss_nil)
  (pss_cons (ps_if (pt_not (pt_val (pe_callB (cr_any rfl) rfl B.any boot_any (pa_cons (pe_lc (own:=[("exponent",2)]) (g:=(gName 2)) (tt:=tYes) (te:=(tCall (z1t K) [] E0 (tCons (tCall (z2c K) [] E0 (tCons (tC (.int 1)) tNil)) (tCons (tVar 2) tNil)))) rfl sc_q58.nd (pi_list (pv 1)) (blkOk_by (N:=z89) (sc:=defScope z1x) (by decide +kernel)) (fun _ _ _ _ _=>(pg_name (i:=2) sc_q58.nd rfl (.inl rfl))) (fun _ _ _ _ _=>pts_nil) (fun _ _ _ _ _=>(z00 G_q33 (hr.mono (by omega)) rfl (pa_cons (z00 G_q48 (hr.mono (by omega)) rfl (pa_cons pe_int pa_nil)) (pa_cons (pv 2) pa_nil))))) pa_nil)))) (pss_one (ps_ret pe_str)) pss_nil)
  (pss_cons (ps_if (pt_val (pe_callB (cr_all rfl) rfl B.all boot_all (pa_cons (pe_lc (own:=[("exponent",2)]) (g:=(gName 2)) (tt:=tYes) (te:=(tOp rEq (tCall (z12 K n) [] E0 (tCons (tVar 2) tNil)) (tC (.str "number")))) rfl sc_q58.nd (pi_list (pv 1)) (blkOk_by (N:=z89) (sc:=defScope z1x) (by decide +kernel)) (fun _ _ _ _ _=>(pg_name (i:=2) sc_q58.nd rfl (.inl rfl))) (fun _ _ _ _ _=>pts_nil) (fun _ _ _ _ _=>(pe_cmpR op_eq (z00 G_q58 (hr.mono (by omega)) rfl (pa_cons (pv 2) pa_nil)) pe_str (nomark _)))) pa_nil))) (pss_one (ps_ret pe_str)) pss_nil)
  (pss_one (ps_ret pe_str))))),?_⟩
 obtain ⟨a,xs,rfl,hs,hb⟩:=z0n hv
 have bl:=hb.length
 have lp:=l.len_parts
 rw [<- Lad.ps_length] at lp
 refine ⟨_,rfl,a,rfl,⟨xs,hs⟩,fun D hD=>?_⟩
 refine lc_it (walk_tup (xs:=xs)) (fun i H2=>SB [D] H H2/\∃ acc,H2 D=some (.lst acc)/\DpAll K H2 acc ((l.ps.take i).map fun p=>p.1.enc)) ⟨SB.new hD _,[],upd_same,.nil⟩ (fun i H2 hi h2=>(h2.1.drop hD).sqT hs) (fun i x H2 H' hi h2 y=>?_) (fun H2 h2=>?_)
 ·obtain ⟨s2,acc,hD2,hb2⟩:=h2
  obtain ⟨rfl,ex⟩:=y
  have s2':=s2.drop hD
  obtain ⟨p,ep,hpd⟩:=hb.get ex
  obtain ⟨ad,ux,rfl,hs2,hla⟩:=z10 hpd
  refine ⟨ad,_,rfl,s2'.sqT hs2,rfl,_,_,rfl,_,_,rfl,rfl,rfl,?_⟩
  have al:=DpAll.length hb2
  rw [List.length_map,List.length_take] at al
  refine ⟨_,rfl,acc,hD2,small1000 (by omega),?_⟩
  have t9:=SB.set (ps:=[D]) hD2 (by simp) (.lst (acc++[ux]))
  refine ⟨s2.trans t9,_,upd_same,?_⟩
  rw [List.take_add_one,ep,List.map_append]
  exact DpAll.append (z23 t9 _ _ (z2b _) hb2) (.cons ((hla.sb s2').sb t9) .nil)
 obtain ⟨s2,acc,hD2,hb2⟩:=h2
 rw [bl,List.take_length] at hb2
 have s2':=s2.drop hD
 have al:=DpAll.length hb2
 rw [List.length_map] at al
 have hp':∀ p ∈ l.ps,p.1.parts < l.parts/\p.1.deep < l.deep:=fun p h=>⟨l.mem_parts p h,l.mem_deep p h⟩
 -- any(exponents)
 refine ⟨_,rfl,D,acc,_,rfl,SqL.of hD2,hb2,z4l _,fun d hd=>?_,?_⟩
 ·obtain ⟨p,pm,rfl⟩:=List.mem_map.mp hd
  show ((p.1.encs.length:Nat):Int) < 2 ^ 63
  have:=(hp' p pm).1
  have:=p.1.len_parts
  rw [Lad.encs_length]; omega
 rw [z8d]
 refine ⟨_,rfl,?_⟩
 have hN:(l.ps.all fun p=>decide (p.1=.nil))=l.isN:=rfl
 rw [hN]
 cases h1:l.isN with
 | true =>
  refine iteT ?_
  have:=q H2 s2'
  rw [Lad.sortT,if_pos h1] at this
  exact this
 | false =>
 refine iteF ?_
 have get:∀ {i:Nat} {x:V},acc[i]?=some x->∃ p,l.ps[i]?=some p/\LA K H2 x p.1:=fun {i x} hx=>by
  obtain ⟨d,ed,hd⟩:=DpAll.get hb2 hx
  rw [List.getElem?_map] at ed
  cases e2:l.ps[i]? with
  | none=>rw [e2] at ed; cases ed
  | some p =>
   rw [e2] at ed
   have e3:p.1.enc=d:=Option.some.inj ed
   subst e3
   exact ⟨p,rfl,hd⟩
 -- any([is_less(number(1),e) ..])
 refine ⟨_,rfl,D,rfl,⟨acc,SqL.of hD2⟩,fun D2 hD3=>?_⟩
 have nD:D ≠ D2:=ne_of_none hD2 hD3
 refine lc_it (walk_list (xs:=acc)) (fun i H3=>SB [D2] H2 H3/\H3 D2=some (.lst (((l.ps.take i).map fun p=>p.1.over1).map V.bl))) ⟨SB.new hD3 _,upd_same⟩ (fun i H3 hi h3=>SqL.of ((h3.1.drop hD3).keep _ _ hD2 nmn)) (fun i x H3 H' hi h3 y=>?_) (fun H3 h3=>?_)
 ·obtain ⟨s3,hD23⟩:=h3
  obtain ⟨rfl,ex⟩:=y
  have s3':=s3.drop hD3
  obtain ⟨p,ep,hpd⟩:=get ex
  have pm:=hp' p (List.mem_of_getElem? ep)
  refine ⟨rfl,?_⟩
  refine ⟨1,rfl,fun v1 H4 s4 h4=>?_⟩
  have nd1:=zcm 1
  refine ⟨_,rfl,v1,x,Lad.num 1,p.1,rfl,h4,(hpd.sb s3').sb s4,by omega,?_⟩
  have hD24:=s4.keep _ _ hD23 nmn
  refine ⟨_,hD24,?_,?_⟩
  ·rw [List.length_map,List.length_map,List.length_take]; exact small1000 (by omega)
  have t5:=SB.set (ps:=[D2]) hD24 (by simp) (.lst (((l.ps.take i).map fun p=>p.1.over1).map V.bl++[.bl ((Lad.num 1).lt p.1)]))
  refine ⟨(s3.trans s4.nil).trans t5,?_⟩
  rw [List.take_add_one,ep,List.map_append,List.map_append,upd_same]
  rfl
 obtain ⟨s3,hD23⟩:=h3
 have s3':=s3.drop hD3
 rw [al,List.take_length] at hD23
 refine ⟨D2,_,rfl,SqL.of hD23,_,rfl,?_⟩
 rw [List.any_map,show (id ∘ fun p:Lad × Int=>p.1.over1)=fun p=>p.1.over1 from rfl]
 have hD4:=s3'.keep _ _ hD2 nmn
 have hb3:=z23 s3' _ _ (z2b _) hb2
 cases h2:(l.ps.any fun p=>p.1.over1) with
 | false =>
  refine iteT ?_
  have:=q H3 (s2'.trans s3')
  rw [Lad.sortT,if_neg (by rw [h1]; simp),if_pos h2] at this
  exact this
 | true =>
 refine iteF ?_
 -- all([sort_of(e) == 'number' ..])
 refine ⟨_,rfl,D,rfl,⟨acc,SqL.of hD4⟩,fun D3 hD5=>?_⟩
 refine lc_it (walk_list (xs:=acc)) (fun i H4=>SB [D3] H3 H4/\H4 D3=some (.lst (((l.ps.take i).map fun p=>p.1.isN).map V.bl))) ⟨SB.new hD5 _,upd_same⟩ (fun i H4 hi h4=>SqL.of ((h4.1.drop hD5).keep _ _ hD4 nmn)) (fun i x H4 H' hi h4 y=>?_) (fun H4 h4=>?_)
 ·obtain ⟨s4,hD34⟩:=h4
  obtain ⟨rfl,ex⟩:=y
  have s4':=s4.drop hD5
  obtain ⟨p,ep,hpd⟩:=get ex
  have pm:=hp' p (List.mem_of_getElem? ep)
  refine ⟨rfl,?_⟩
  refine ⟨_,rfl,x,p.1,rfl,(hpd.sb s3').sb s4',by omega,by omega,by omega,fun H5 s5=>?_⟩
  have hD35:=s5.keep _ _ hD34 nmn
  refine ⟨rfl,_,hD35,?_,?_⟩
  ·rw [List.length_map,List.length_map,List.length_take]; exact small1000 (by omega)
  have t5:=SB.set (ps:=[D3]) hD35 (by simp) (.lst (((l.ps.take i).map fun p=>p.1.isN).map V.bl++[.bl (decide (V.str p.1.sortT=V.str "number"))]))
  refine ⟨(s4.trans s5.nil).trans t5,?_⟩
  have e9:decide (V.str p.1.sortT=V.str "number")=p.1.isN:=by
   rw [<- Lad.sortT_num]
   exact decide_eq_decide.mpr ⟨fun h=>by injection h,fun h=>by rw [h]⟩
  rw [List.take_add_one,ep,List.map_append,List.map_append,upd_same,e9]
  rfl
 obtain ⟨s4,hD34⟩:=h4
 have s4':=s4.drop hD5
 rw [al,List.take_length] at hD34
 refine ⟨D3,_,rfl,SqL.of hD34,_,rfl,?_⟩
 rw [List.all_map,show (id ∘ fun p:Lad × Int=>p.1.isN)=fun p=>p.1.isN from rfl]
 have qq:=q H4 ((s2'.trans s3').trans s4')
 rw [Lad.sortT,if_neg (by rw [h1]; simp),if_neg (by rw [h2]; simp)] at qq
 cases h3:(l.ps.all fun p=>p.1.isN) with
 | true =>
  rw [if_pos h3] at qq
  exact iteT qq
 | false =>
  rw [if_neg (by rw [h3]; simp)] at qq
  exact iteF qq
end
section
variable {P:Program} {w:World} {K:PySem.W.Frag} {mg:Str->Option Value} {base:Heap} {f:Addr} {fd:FuncData} {ps:List Addr}
theorem zbb:FnScope ["_law_script","_law_k"] ["_law_script","_law_k"] (defScope s_q6):=⟨rfl,rfl,rfl,by decide +kernel,rfl,by decide +kernel,by decide +kernel⟩
theorem zax (B:BI mg) (F:Fun K "_law_at" "_law_at" s_q6 f fd):FnOk P w K mg base CX0 1 f fd ["_law_script","_law_k"] (spAt K):=by
 refine F.ok zbb (fun vs H Q E h=>?_) (fun cdv A outer s H vs Q E hr h=>?_)
 ·obtain ⟨a,ns,k,rfl,_⟩:=h
  rfl
 obtain ⟨a,ns,k,rfl,hs,q⟩:=h
 refine ⟨_,pss_cons (ps_if (pt_cmpR op_lt (pv 1) (pe_callB call_len_seq rfl B.len PySem.boot_len (pa_cons (pv 0) pa_nil)) (nomark _)) (pss_one (ps_ret (pe_ix ix_list (pv 0) (pv 1) (fun _ _=>rfl)))) pss_nil) (pss_one (ps_ret pe_int)),?_⟩
 refine ⟨_,rfl,_,rfl,a,_,rfl,.inl hs,_,_,rfl,rfl,_,rfl,?_⟩
 refine ite2 (fun c=>?_) (fun c=>?_)
 ·have c':(k:Int) < ((ns.map V.int).length:Nat):=of_decide_eq_true c
  have c2:k < ns.length:=by rw [List.length_map] at c'; omega
  exact ⟨_,rfl,_,rfl,a,_,_,.int ns[k],rfl,rfl,hs,atI_nat (by rw [List.getElem?_map,List.getElem?_eq_getElem c2]; rfl),q _⟩
 ·exact q 0
end
section
variable {P:Program} {w:World} {K:PySem.W.Frag} {mg:Str->Option Value} {base:Heap} {f:Addr} {fd:FuncData} {ps:List Addr}
theorem sc_law_purse:FnScope zgk ["_law_cell","_law_salt"] (defScope z57):=⟨rfl,rfl,rfl,by decide +kernel,rfl,by decide +kernel,by decide +kernel⟩
theorem z8z (B:BI mg) (F:Fun K "_law_purse" "_law_purse" z57 f fd):FnOk P w K mg base CX0 1 f fd ["_law_cell","_law_salt"] z7d:=by
 refine F.ok sc_law_purse (fun vs H Q E h=>?_) (fun cdv A outer s H vs Q E hr h=>?_)
 ·obtain ⟨c,k,rfl,_⟩:=h
  rfl
 obtain ⟨c,k,rfl,h0,h1,q⟩:=h
 refine ⟨_,pss_cons (ps_set (i:=2) sc_law_purse.nd rfl (.inl rfl) pe_int)
  (pss_cons (ps_if (PW.pt (pw_or (pt_cmpR op_lt (pv 0) pe_int (nomark _)) (pw_or1 (pt_cmpR op_ge (pv 0) (pe_op op_pow pe_int pe_int) (nomark _)))))
   (pss_one (ps_set (i:=2) sc_law_purse.nd rfl (.inl rfl) (pe_callB call_abs rfl B.abs boot_abs (pa_cons (pv 0) pa_nil)))) pss_nil)
  (pss_one (ps_ret (pe_lst (pa_cons (pv 2) (pa_cons (pe_op op_mod (pe_op op_add (pe_op op_add (pe_op op_mod (pv 0) pe_int) (pe_op op_mul (pe_op op_mul pe_int (pv 1)) (pv 1))) pe_int) pe_int) pa_nil)))))),?_⟩
 have fin:∀ x:Int,0<=x->tRet (tLst (tCons (tVar 2) (tCons (tOp (rI (fun _ j=>0 < j) fun i j=>.int (i % j)) (tOp (rI0 fun i j=>.int (i+j)) (tOp (rI0 fun i j=>.int (i+j)) (tOp (rI (fun _ j=>0 < j) fun i j=>.int (i % j)) (tVar 0) (tC (.int 2147483629))) (tOp (rI CMul fun i j=>.int (i*j)) (tOp (rI CMul fun i j=>.int (i*j)) (tC (.int 104729)) (tVar 1)) (tVar 1))) (tC (.int 77))) (tC (.int 2147483629))) tNil)))
   { nx:=fun _ H'=>Q .non H',rt:=Q } [some (.int c),some (.int k),some (.int x)] H:=by
  intro x hx
  refine ⟨_,rfl,_,rfl,_,_,rfl,rfl,(by show (0:Int) < 2147483629; decide),_,rfl,_,_,rfl,rfl,.inl ⟨by decide,by decide⟩,_,rfl,_,_,rfl,rfl,.inl ⟨by show -(2 ^ 64) < 104729*k; omega,by show 104729*k < 2 ^ 64; omega⟩,_,_,rfl,rfl,_,_,rfl,rfl,_,_,rfl,rfl,(by show (0:Int) < 2147483629; decide),(by show 2<=sizeLine; decide),fun p hp=>?_⟩
  refine q p _ (SB.new hp _) hp ⟨x,_,upd_same,hx,?_,?_⟩
  ·exact Int.emod_nonneg _ (by decide)
  ·exact Int.emod_lt_of_pos _ (by decide)
 refine ⟨_,rfl,_,_,rfl,rfl,_,rfl,?_⟩
 have habs:0<=(if c < 0 then -c else c):=by split <;> omega
 refine ite2 (fun z=>?_) (fun z=>?_)
 ·exact iteT ⟨_,rfl,c,rfl,fin _ habs⟩
 ·refine ⟨_,rfl,_,_,rfl,rfl,⟨by decide,by decide,by decide⟩,_,_,rfl,rfl,_,rfl,?_⟩
  refine ite2 (fun z=>?_) (fun z=>?_)
  ·exact ⟨_,rfl,c,rfl,fin _ habs⟩
  ·exact fin 0 (Int.le_refl 0)
end
section
variable {P:Program} {w:World} {K:PySem.W.Frag} {mg:Str->Option Value} {base:Heap} {f:Addr} {fd:FuncData} {ps:List Addr}
abbrev zgj:List Str:=["_law_purse_here","_law_many","_law_found","_law_mixed"]
theorem sc_law_draw:FnScope zgj ["_law_purse_here","_law_many"] (defScope s_q7):=⟨rfl,rfl,rfl,by decide +kernel,rfl,by decide +kernel,by decide +kernel⟩
theorem z9e (F:Fun K "_law_draw" "_law_draw" s_q7 f fd):FnOk P w K mg base CX0 1 f fd ["_law_purse_here","_law_many"] z13:=by
 refine F.ok sc_law_draw (fun vs H Q E h=>?_) (fun cdv A outer s H vs Q E hr h=>?_)
 ·obtain ⟨p,m,rfl,_⟩:=h
  rfl
 obtain ⟨p,m,rfl,⟨x,y,hp,hx,hy,hy2⟩,hm,hm2,q⟩:=h
 refine ⟨_,pss_cons (ps_if (pt_cmpR op_gt (pe_ix ix_list (pv 0) pe_int (fun _ _=>rfl)) pe_int (nomark _))
   (pss_cons (ps_set (i:=2) sc_law_draw.nd rfl (.inl rfl) (pe_op op_mod (pe_ix ix_list (pv 0) pe_int (fun _ _=>rfl)) (pv 1)))
   (pss_cons (ps_asg (pe_op op_fdivW (pe_ix ix_list (pv 0) pe_int (fun _ _=>rfl)) (pv 1)) (pg_sub (pv 0) pe_int set_list)) (pss_one (ps_ret (pv 2))))) pss_nil)
  (pss_cons (ps_asg (pe_op op_mod (pe_op op_add (pe_op op_mul (pe_ix ix_list (pv 0) pe_int (fun _ _=>rfl)) pe_int) pe_int) pe_int) (pg_sub (pv 0) pe_int set_list))
  (pss_cons (ps_set (i:=3) sc_law_draw.nd rfl (.inl rfl) (pe_op op_mod (pe_op op_mul (pe_ix ix_list (pv 0) pe_int (fun _ _=>rfl)) (pe_ix ix_list (pv 0) pe_int (fun _ _=>rfl))) pe_int))
  (pss_one (ps_ret (pe_op op_mod (pe_op op_fdivW (pe_op op_mod (pe_op op_add (pe_op op_mul (pv 3) pe_int) (pe_ix ix_list (pv 0) pe_int (fun _ _=>rfl))) pe_int) pe_int) (pv 1)))))),?_⟩
 have hS:SqL K H p [.int x,.int y]:=SqL.of hp
 refine ⟨_,rfl,p,_,_,_,rfl,rfl,hS,ix0,_,_,rfl,rfl,_,rfl,?_⟩
 refine ite2 (fun c=>?_) (fun c=>?_)
 ·refine ⟨_,rfl,p,_,_,_,rfl,rfl,hS,ix0,_,rfl,_,_,rfl,rfl,(by show (0:Int) < m; omega),?_⟩
  refine ⟨_,rfl,p,_,_,_,rfl,rfl,hS,ix0,_,rfl,_,_,rfl,rfl,wide_div (b:=100) (by omega) (by omega) (by decide) (by decide),?_⟩
  refine ⟨_,rfl,p,_,_,_,rfl,rfl,hp,rfl,?_⟩
  refine ⟨_,rfl,q _ _ (Int.emod_nonneg _ (by omega)) (Int.emod_lt_of_pos _ (by omega)) (SB.set hp (by simp) _) ⟨x / m,y,upd_same,Int.ediv_nonneg hx (by omega),hy,hy2⟩⟩
 ·refine ⟨_,rfl,p,_,_,_,rfl,rfl,hS,ix1,_,_,rfl,rfl,.inr ⟨by decide,by decide⟩,_,_,rfl,rfl,_,_,rfl,rfl,(by show (0:Int) < 2147483629; decide),?_⟩
  refine ⟨_,rfl,p,_,_,_,rfl,rfl,hp,rfl,?_⟩
  have b1:0<=(y*48271+2531011) % 2147483629:=Int.emod_nonneg _ (by decide)
  have b2:(y*48271+2531011) % 2147483629 < 2147483629:=Int.emod_lt_of_pos _ (by decide)
  generalize hz:(y*48271+2531011) % 2147483629=z at b1 b2
  have hp2:(upd H p (.lst [.int x,.int z])) p=some (.lst [.int x,.int z]):=upd_same
  have hS2:SqL K (upd H p (.lst [.int x,.int z])) p [.int x,.int z]:=SqL.of hp2
  show tSeq _ _ _ _ (upd H p (.lst [.int x,.int ((y*48271+2531011) % 2147483629)]))
  rw [hz]
  refine ⟨_,rfl,p,_,_,_,rfl,rfl,hS2,ix1,_,rfl,p,_,_,_,rfl,rfl,hS2,ix1,_,_,rfl,rfl,.inl ⟨by omega,by omega⟩,_,_,rfl,rfl,(by show (0:Int) < 2147483587; decide),?_⟩
  have c1:0<=z*z % 2147483587:=Int.emod_nonneg _ (by decide)
  have c2:z*z % 2147483587 < 2147483587:=Int.emod_lt_of_pos _ (by decide)
  refine ⟨_,rfl,_,_,rfl,rfl,.inr ⟨by decide,by decide⟩,_,rfl,p,_,_,_,rfl,rfl,hS2,ix1,_,_,rfl,rfl,_,_,rfl,rfl,(by show (0:Int) < 2147483587; decide),_,_,rfl,rfl,wide_div (b:=100) (by decide) (by decide) (by decide) (by decide),_,rfl,_,_,rfl,rfl,(by show (0:Int) < m; omega),?_⟩
  exact q _ _ (Int.emod_nonneg _ (by omega)) (Int.emod_lt_of_pos _ (by omega)) (SB.set hp (by simp) _) ⟨x,z,upd_same,hx,b1,b2⟩
end
section
variable {P:Program} {w:World} {K:PySem.W.Frag} {mg:Str->Option Value} {base:Heap} {f:Addr} {fd:FuncData}
abbrev z6t:List Str:=["_law_purse_here","_law_many","_law_letters","_law_word_here","_law_names_here","_law_wide","_law_at_here","_law_first","_law_step","_law_signs","_law_found","_law_turn","_law_k","_law_sign"]
theorem sc_q12:FnScope z6t ["_law_purse_here","_law_many"] (defScope z1o):=⟨rfl,rfl,rfl,by decide +kernel,rfl,by decide +kernel,by decide +kernel⟩
theorem zin (B:BI mg) (G_q7:Got P w K mg base "_law_draw" ["_law_purse_here","_law_many"] (1) (z13)) (F:Fun K "_law_names" "_law_names" z1o f fd):FnOk P w K mg base CX0 (2) f fd ["_law_purse_here","_law_many"] (z3u K):=by
 refine F.ok sc_q12 (fun vs H Q E h=>?_) (fun cdv A outer s H vs Q E hr h=>?_)
 ·obtain ⟨p,m,rfl,_⟩:=h
  rfl
 obtain ⟨p,m,rfl,hp,m1,m8,q⟩:=h
 have hun2:=hunT hr
 refine ⟨_,pss_cons (ps_set (i:=2) sc_q12.nd rfl (.inr rfl) pe_str)
  (pss_cons (ps_set (i:=3) sc_q12.nd rfl (.inr rfl) (pe_join pe_str (pe_lc (own:=[("_law_turn",11)]) (g:=(gName 11)) (tt:=tYes) (te:=(tOp rIxS (tVar 2) (tCall (z13) [] E0 (tCons (tVar 0) (tCons (tC (.int 26)) tNil))))) rfl sc_q12.nd (pi_range1 rfl B.range (pa_cons pe_int pa_nil)) (blkOk_by (N:=z6t) (sc:=defScope z1o) (by decide +kernel)) (fun _ _ _ _ _=>(pg_name (i:=11) sc_q12.nd rfl (.inl rfl))) (fun _ _ _ _ _=>pts_nil) (fun _ _ _ _ _=>(pe_ix ix_str (pv 2) (z00 G_q7 (hr.mono (by omega)) rfl (pa_cons (pv 0) (pa_cons pe_int pa_nil))) (fun _ _=>rfl))))))
  (pss_cons (ps_if (pt_cmpR op_eq (z00 G_q7 (hr.mono (by omega)) rfl (pa_cons (pv 0) (pa_cons pe_int pa_nil))) pe_int (nomark _)) (pss_one (ps_setLc (i:=4) (own:=[("_law_k",12)]) (g:=(gName 12)) (tt:=tYes) (te:=(tSl rSlS (tVar 3) tNoPart (tPart (tOp (rI0 fun i j=>.int (i+j)) (tVar 12) (tC (.int 1)))))) rfl sc_q12.nd rfl rfl (sw_true rfl rfl rfl (by decide +kernel)) (pi_range1 rfl B.range (pa_cons (pv 1) pa_nil)) (blkOk_by (N:=z6t) (sc:=defScope z1o) (by decide +kernel)) (fun _ _ _ _ _=>(pg_name (i:=12) sc_q12.nd rfl (.inl rfl))) (fun _ _ _ _ _=>pts_nil) (fun _ _ _ _ _=>(pe_slice sl_str (pv 3) po_none (po_some (pe_op op_add (pv 12) pe_int)))))) (pss_cons (ps_set (i:=5) sc_q12.nd rfl (.inr rfl) (pe_op op_add pe_int (z00 G_q7 (hr.mono (by omega)) rfl (pa_cons (pv 0) (pa_cons pe_int pa_nil)))))
  (pss_cons (ps_set (i:=6) sc_q12.nd rfl (.inr rfl) (z00 G_q7 (hr.mono (by omega)) rfl (pa_cons (pv 0) (pa_cons (pv 5) pa_nil))))
  (pss_cons (ps_asg (pe_tup (pa_cons (z00 G_q7 (hr.mono (by omega)) rfl (pa_cons (pv 0) (pa_cons pe_int pa_nil))) (pa_cons (pe_ix ix_list (pe_lst (pa_cons pe_int (pa_cons pe_int (pa_cons pe_int (pa_cons pe_int (pa_cons pe_int (pa_cons pe_int (pa_cons pe_int (pa_cons pe_int pa_nil))))))))) (z00 G_q7 (hr.mono (by omega)) rfl (pa_cons (pv 0) (pa_cons pe_int pa_nil))) (fun _ _=>rfl)) pa_nil))) (pg_tup rfl (pgs_cons (pg_name (i:=7) sc_q12.nd rfl (.inr rfl)) (pgs_cons (pg_name (i:=8) sc_q12.nd rfl (.inr rfl)) pgs_nil))))
  (pss_cons (ps_setLc (i:=9) (own:=[("_law_k",12)]) (g:=(gName 12)) (tt:=tYes) (te:=(tOp rIxS (tVar 2) (tOp (rI (fun _ j=>0 < j) fun i j=>.int (i % j)) (tOp (rI0 fun i j=>.int (i+j)) (tVar 7) (tOp (rI CMul fun i j=>.int (i*j)) (tVar 8) (tVar 12))) (tC (.int 26))))) rfl sc_q12.nd rfl rfl (sw_true rfl rfl rfl (by decide +kernel)) (pi_range1 rfl B.range (pa_cons (pv 1) pa_nil)) (blkOk_by (N:=z6t) (sc:=defScope z1o) (by decide +kernel)) (fun _ _ _ _ _=>(pg_name (i:=12) sc_q12.nd rfl (.inl rfl))) (fun _ _ _ _ _=>pts_nil) (fun _ _ _ _ _=>(pe_ix ix_str (pv 2) (pe_op op_mod (pe_op op_add (pv 7) (pe_op op_mul (pv 8) (pv 12))) pe_int) (fun _ _=>rfl))))
  (pss_one (ps_setLc (i:=4) (own:=[("_law_sign",13)]) (g:=(gName 13)) (tt:=tYes) (te:=(tOp (fun x y H Q=>∃ i j,x=.str i/\y=.str j/\i.length+j.length<=sizeLine/\Q (.str (i++j)) H) (tOp (fun x y H Q=>∃ i j,x=.str i/\y=.str j/\i.length+j.length<=sizeLine/\Q (.str (i++j)) H) (tSl rSlS (tVar 3) tNoPart (tPart (tVar 6))) (tVar 13)) (tSl rSlS (tVar 3) (tPart (tOp (rI0 fun i j=>.int (i+j)) (tVar 6) (tC (.int 1)))) (tPart (tVar 5))))) rfl sc_q12.nd rfl rfl (sw_true rfl rfl rfl (by decide +kernel)) (pi_list (pv 9)) (blkOk_by (N:=z6t) (sc:=defScope z1o) (by decide +kernel)) (fun _ _ _ _ _=>(pg_name (i:=13) sc_q12.nd rfl (.inl rfl))) (fun _ _ _ _ _=>pts_nil) (fun _ _ _ _ _=>(pe_op op_add_str (pe_op op_add_str (pe_slice sl_str (pv 3) po_none (po_some (pv 6))) (pv 13)) (pe_slice sl_str (pv 3) (po_some (pe_op op_add (pv 6) pe_int)) (po_some (pv 5))))))))))))
  (pss_cons (ps_set (i:=10) sc_q12.nd rfl (.inl rfl) (pe_lst pa_nil))
  (pss_cons (ps_while PassesOwn.never (pt_cmpR (op_neD (by show A.units+3+64 < cLine; omega)) (pv 4) (pe_lst pa_nil) (nomark _)) (pss_one (ps_expr (pe_bm PySem.F.plainAttrs_list PySem.F.slot_list_append PySem.F.type_list_append mt_append (pv 10) (pa_cons (pe_bm PySem.F.plainAttrs_list PySem.F.slot_list_pop PySem.F.type_list_pop mt_popAt (pv 4) (pa_cons (z00 G_q7 (hr.mono (by omega)) rfl (pa_cons (pv 0) (pa_cons (pe_callB call_len_seq rfl B.len PySem.boot_len (pa_cons (pv 4) pa_nil)) pa_nil))) pa_nil)) pa_nil)))))
  (pss_one (ps_ret (pv 10))))))),?_⟩
 have szl:=sizeLine_eq
 refine z0d (seqI (asgI ?_))
 refine zi6 (k:=8) (jP:=0) (jL:=2) (jV:=11) (wi:=iRng1 (tCons (tC (.int 8)) tNil)) (σ:=[some (.ref p),some (.int (m:Int)),some (.str abc),none,none,none,none,none,none,none,none,none,none,none]) (by omega) (fun _=>rfl) (fun _=>rfl) (fun _=>rfl) (fun R hR=>⟨_,rfl,by decide,by decide,hR⟩) hp (fun st H1 s1 hp1 hst=>?_)
 have sl:=hst.len
 dsimp only
 refine z5s (fun σ' H9=>SB [p] H H9/\Pu H9 p/\∃ (W':Addr) (ws:List Str) (o5 o6 o7 o8 o9:Option V),σ'=[some (.ref p),some (.int (m:Int)),some (.str abc),some (.str st),some (.ref W'),o5,o6,o7,o8,o9,none,none,none,none]/\H W'=none/\W' ≠ p/\H9 W'=some (.lst (ws.map V.str))/\ws.length=m/\ws.Nodup/\∀ k ∈ ws,z01 k) (fun nx hnx=>?_) (fun σ' H9 h=>?_)
 ·refine ifI ?_
  refine z52 (i:=0) rfl hp1 (by decide) (by decide) fun r9 H9 r90 r93 s9 hp9=>?_
  refine ⟨rfl,_,rfl,?_⟩
  refine ite2 (fun _=>?_) (fun _=>?_)
  ·refine ⟨_,rfl,_,rfl,by omega,by omega,fun D hD=>?_⟩
   rw [Int.toNat_natCast]
   refine z0f walk_range hD (by omega) (fun i us _=>us=((List.range i).map fun k=>cutS st none (some ((k+1:Nat):Int))).map V.str) rfl (fun _ _=>trivial) (fun _ _ _ _ _ h=>h) (fun Pv i x Hx H' us hi sx y hR hl fin _=>?_) (fun us Hx sx hDx hR hl=>?_)
   ·obtain ⟨rfl,rfl⟩:=y
    have e0:(0:Int)+(i:Int)+1=((i+1:Nat):Int):=by omega
    refine ⟨rfl,_,rfl,_,rfl,_,_,rfl,rfl,_,rfl,st,rfl,by omega,fin _ _ SB.refl ?_⟩
    rw [hR,List.range_succ,List.map_append,List.map_append,e0]
    rfl
   ·subst hR
    have k3:∀ i,i < 8->Ltr (cutS st none (some ((i+1:Nat):Int))) (i+1):=fun i hi=>by
     have:=hst.take (i+1)
     rw [Nat.min_eq_left (by omega)] at this
     exact this
    have pD:p ≠ D:=hp9.ne hD
    refine hnx _ _ ⟨(s1.trans s9).trans sx.nil,hp9.sb sx,D,(List.range m).map fun k=>cutS st none (some ((k+1:Nat):Int)),_,_,_,_,_,rfl,(s1.trans s9).dom _ hD,fun z=>pD z.symm,hDx,by simp,nodup_range fun i j hi hj hn e=>?_,fun k hk=>?_⟩
    ·have e1:=(k3 i (by omega)).1
     rw [e,(k3 j (by omega)).1] at e1
     omega
    ·obtain ⟨i,hi,rfl⟩:=List.mem_map.mp hk
     have hi:=List.mem_range.mp hi
     exact (k3 i (by omega)).name (by omega) (by omega)
  ·have s09:=s1.trans s9
   refine z52 (i:=0) rfl hp9 (by decide) (by decide) fun r2 H2 r20 r28 s2 hp2=>?_
   obtain ⟨sz0,rfl⟩:∃ u:Nat,r2=(u:Int):=⟨r2.toNat,by omega⟩
   refine ⟨_,_,rfl,rfl,?_⟩
   refine zgc (i:=0) (j:=5) rfl rfl hp2 (by omega) (by omega) fun r3 H3 r30 r38 s3 hp3=>?_
   obtain ⟨at_,rfl⟩:∃ u:Nat,r3=(u:Int):=⟨r3.toNat,by omega⟩
   have hat:at_ < 1+sz0:=by omega
   refine z52 (i:=0) rfl hp3 (by decide) (by decide) fun r4 H4 r40 r48 s4 hp4=>?_
   obtain ⟨bg,rfl⟩:∃ u:Nat,r4=(u:Int):=⟨r4.toNat,by omega⟩
   refine ⟨by show 8<=sizeLine; decide,fun la hla=>?_⟩
   have t5:=SB.new (ps:=[]) hla (.lst [.int 1,.int 3,.int 5,.int 7,.int 9,.int 11,.int 15,.int 17])
   have hla5:upd H4 la (.lst [.int 1,.int 3,.int 5,.int 7,.int 9,.int 11,.int 15,.int 17]) la=some (.lst [.int 1,.int 3,.int 5,.int 7,.int 9,.int 11,.int 15,.int 17]):=upd_same
   have lap:la ∉ [p]:=by simpa using fun z:la=p=>hp4.ne hla z.symm
   have hp5:=hp4.sb t5
   generalize upd H4 la (.lst [.int 1,.int 3,.int 5,.int 7,.int 9,.int 11,.int 15,.int 17])=H5 at t5 hla5 hp5
   refine z52 (i:=0) rfl hp5 (by decide) (by decide) fun r6 H6 r60 r68 s6 hp6=>?_
   have hla6:=s6.keep _ _ hla5 lap
   obtain ⟨st',hz,hst'⟩:∃ s':Nat,atI [V.int 1,.int 3,.int 5,.int 7,.int 9,.int 11,.int 15,.int 17] r6=some (.int (s':Int))/\(s'=1\/s'=3\/s'=5\/s'=7\/s'=9\/s'=11\/s'=15\/s'=17):=by
    have:r6=0\/r6=1\/r6=2\/r6=3\/r6=4\/r6=5\/r6=6\/r6=7:=by omega
    rcases this with h | h | h | h | h | h | h | h <;> subst h
    ·exact ⟨1,rfl,by simp⟩
    ·exact ⟨3,rfl,by simp⟩
    ·exact ⟨5,rfl,by simp⟩
    ·exact ⟨7,rfl,by simp⟩
    ·exact ⟨9,rfl,by simp⟩
    ·exact ⟨11,rfl,by simp⟩
    ·exact ⟨15,rfl,by simp⟩
    ·exact ⟨17,rfl,by simp⟩
   have st17:st'<=17:=by omega
   refine ⟨la,_,_,_,rfl,rfl,SqL.of hla6,hz,?_⟩
   have s06:SB [p] H H6:=((((s09.trans s2).trans s3).trans s4).trans t5.nil).trans s6
   refine ⟨by show 2<=sizeLine; decide,fun tt nt=>?_⟩
   have t7:=SB.new (ps:=[]) nt (.tup [.int (bg:Int),.int (st':Int)])
   have htt:upd H6 tt (.tup [.int (bg:Int),.int (st':Int)]) tt=some (.tup [.int (bg:Int),.int (st':Int)]):=upd_same
   have hp7:=hp6.sb t7
   have s07:=s06.trans (t7.nil (ps:=[p]))
   generalize upd H6 tt (.tup [.int (bg:Int),.int (st':Int)])=H7 at t7 htt hp7 s07
   refine ⟨tt,_,rfl,SqT.of htt,rfl,_,_,rfl,_,_,rfl,rfl,?_⟩
   let sg:Nat->Str:=fun k=>⟨#[97+(bg+st'*k) % 26]⟩
   refine ⟨_,rfl,_,rfl,by omega,by omega,fun G hG=>?_⟩
   rw [Int.toNat_natCast]
   refine z0f walk_range hG (by omega) (fun i us _=>us=((List.range i).map sg).map V.str) rfl (fun _ _=>trivial) (fun _ _ _ _ _ h=>h) (fun Pv i x Hx H' us hi sx y hR hl fin _=>?_) (fun us H8 s8 hG8 hR hl=>?_)
   ·obtain ⟨rfl,rfl⟩:=y
    have e1:((bg:Int)+(st':Int)*(0+(i:Int))) % 26=(((bg+st'*i) % 26:Nat):Int):=by
     rw [Int.zero_add]; push_cast; rfl
    refine ⟨rfl,?_⟩
    refine ⟨_,rfl,_,rfl,_,rfl,_,rfl,_,_,rfl,rfl,.inl ⟨by show (-(2 ^ 64):Int) < (st':Int); omega,by show (st':Int) < 2 ^ 64; omega⟩,_,_,rfl,rfl,_,_,rfl,rfl,(by show (0:Int) < 26; decide),abc,_,97+(bg+st'*i) % 26,rfl,rfl,z9p,?_,?_⟩
    ·show atI abc.cps.toList (((bg:Int)+(st':Int)*(0+(i:Int))) % 26)=_
     rw [e1]
     exact z6e (zco _ (by omega))
    refine fin _ _ SB.refl ?_
    rw [hR,List.range_succ,List.map_append,List.map_append]
    rfl
   subst hR
   have hp8:=hp7.sb s8
   have s08:=s07.trans (s8.nil (ps:=[p]))
   let wd:Nat->Str:=fun k=>cutS st none (some (at_:Int))++sg k++cutS st (some ((at_+1:Nat):Int)) (some ((1+sz0:Nat):Int))
   refine ⟨_,rfl,G,rfl,⟨_,SqL.of hG8⟩,fun D hD=>?_⟩
   have la':=(hst.take at_).len
   have lb:=(hst.cut (at_+1) (1+sz0)).len
   refine z0f (walk_list (xs:=((List.range m).map sg).map V.str)) hD (by simp; omega) (fun i us _=>us=((List.range i).map wd).map V.str) rfl (fun H2 s2=>s2.sqL nmn (SqL.of hG8)) (fun _ _ _ _ _ h=>h) (fun Pv i x Hx H' us hi sx y hR hl fin _=>?_) (fun us Hx sx hDx hR hl=>?_)
   ·obtain ⟨rfl,ey⟩:=y
    have hi:i < m:=by simpa using hi
    rw [List.getElem?_map,List.getElem?_map,List.getElem?_range hi] at ey
    have ey:V.str (sg i)=x:=Option.some.inj ey
    subst ey
    refine ⟨rfl,?_⟩
    refine ⟨_,rfl,_,rfl,_,rfl,st,rfl,by omega,_,rfl,_,_,rfl,rfl,by rw [la']; show _+1<=_; omega,?_⟩
    refine ⟨_,rfl,_,rfl,_,_,rfl,rfl,_,rfl,_,rfl,_,rfl,st,rfl,by omega,_,_,rfl,rfl,?_,?_⟩
    ·have:(cutS st none (some (at_:Int))++(⟨#[97+(bg+st'*i) % 26]⟩:Str)).length=min at_ 8+1:=((hst.take at_).append (Ltr.one (c:=97+(bg+st'*i) % 26) (by omega))).len
     have lb2:(cutS st (some ((at_:Int)+1)) (some ((1:Int)+(sz0:Int)))).length=min (1+sz0) 8-min (at_+1) 8:=lb
     show (cutS st none (some (at_:Int))++(⟨#[97+(bg+st'*i) % 26]⟩:Str)).length+(cutS st (some ((at_:Int)+1)) (some ((1:Int)+(sz0:Int)))).length<=sizeLine
     rw [this,lb2]; omega
    refine fin _ _ SB.refl ?_
    rw [hR,List.range_succ,List.map_append,List.map_append]
    rfl
   ·rw [List.length_map,List.length_map,List.length_range] at hR
    subst hR
    have pD:p ≠ D:=hp8.ne hD
    have key2:∀ i,Ltr (wd i) (min at_ 8+1+(min (1+sz0) 8-min (at_+1) 8)):=fun i=>((hst.take at_).append (Ltr.one (by omega))).append (hst.cut (at_+1) (1+sz0))
    refine hnx _ _ ⟨s08.trans (sx.nil (ps:=[p])),hp8.sb sx,D,(List.range m).map wd,_,_,_,_,_,rfl,s08.dom _ hD,fun z=>pD z.symm,hDx,by simp,nodup_range fun i j hi hj hn e=>?_,fun k hk=>?_⟩
    ·have e1:=(hst.take at_).mid (c:=97+(bg+st'*i) % 26) (b:=cutS st (some ((at_+1:Nat):Int)) (some ((1+sz0:Nat):Int)))
     have e2:=(hst.take at_).mid (c:=97+(bg+st'*j) % 26) (b:=cutS st (some ((at_+1:Nat):Int)) (some ((1+sz0:Nat):Int)))
     have e':cutS st none (some (at_:Int))++(⟨#[97+(bg+st'*i) % 26]⟩:Str)++cutS st (some ((at_+1:Nat):Int)) (some ((1+sz0:Nat):Int))=cutS st none (some (at_:Int))++(⟨#[97+(bg+st'*j) % 26]⟩:Str)++cutS st (some ((at_+1:Nat):Int)) (some ((1+sz0:Nat):Int)):=e
     rw [e',e2] at e1
     injection e1 with e1
     exact hn (zc3 (b:=bg) hst' (by omega) (by omega) (by omega))
    ·obtain ⟨i,hi,rfl⟩:=List.mem_map.mp hk
     exact (key2 i).name (by omega) (by omega)
 obtain ⟨s9,hp9,W',ws,o5,o6,o7,o8,o9,rfl,nW',Wp,hW',wl,wn,wok⟩:=h
 refine ⟨by show 0<=sizeLine; decide,fun D hD=>?_⟩
 have nD:H D=none:=s9.dom _ hD
 have pD:p ≠ D:=hp9.ne hD
 have WD:W' ≠ D:=ne_of_none hW' hD
 have t10:=SB.new (ps:=[]) hD (.lst [])
 have s10:SB [D,W',p] H (upd H9 D (.lst [])):=(s9.mono (by simp)).trans t10.nil
 have hp10:=hp9.sb t10
 have hW10:=t10.keep _ _ hW' nmn
 have hD10:upd H9 D (.lst []) D=some (.lst (([]:List Str).map V.str)):=upd_same
 generalize upd H9 D (.lst [])=H10 at t10 s10 hp10 hW10 hD10
 let Pv:List Str->L2.St->Hp->Prop:=fun ls σ H2=>SB [D,W',p] H H2/\Pu H2 p/\∃ os:List Str,σ=[some (.ref p),some (.int (m:Int)),some (.str abc),some (.str st),some (.ref W'),o5,o6,o7,o8,o9,some (.ref D),none,none,none]/\H2 W'=some (.lst (ls.map V.str))/\H2 D=some (.lst (os.map V.str))/\(os++ls).Perm ws
 refine zat (K:=K) (enc:=PyData.str) (D:=W') List.length Pv (ws0:=ws) ⟨s10,hp10,[],rfl,hW10,hD10,List.Perm.refl _⟩ (fun ls σ H2 h2=>?_) (fun _=>rfl) (fun ls σ H2 h2=>?_) (fun ls σ H2 z h2 hz=>?_) (fun js x σ H2 h2=>?_) (fun σ H2 h2=>?_)
 ·obtain ⟨_,_,os,rfl,hW2,_⟩:=h2
  exact ⟨rfl,_,hW2,z1v _⟩
 ·obtain ⟨_,_,os,_,_,_,pm⟩:=h2
  exact z4n fun z hz=>wok z (pm.mem_iff.mp (mar _ hz))
 ·obtain ⟨s2,hp2,os,rfl,hW2,hD2,pm⟩:=h2
  have t:=SB.new (ps:=[]) hz (.lst [])
  exact ⟨s2.trans t.nil,hp2.sb t,os,rfl,t.keep _ _ hW2 nmn,t.keep _ _ hD2 nmn,pm⟩
 ·obtain ⟨s2,hp2,os,rfl,hW2,hD2,pm⟩:=h2
  generalize hls:js++[x]=ls at hW2 pm
  have pl:=pm.length_eq
  have lpos:0 < ls.length:=by rw [<- hls]; simp
  rw [List.length_append,wl] at pl
  refine ⟨_,rfl,.inl ⟨rfl,_,SqL.of hD2⟩,_,rfl,.inl ⟨rfl,_,SqL.of hW2⟩,_,rfl,_,rfl,W',_,rfl,.inl (SqL.of hW2),p,_,rfl,hp2,by rw [List.length_map]; omega,by rw [List.length_map]; omega,fun r H3 r0 rm s3 hp3=>?_⟩
  rw [List.length_map] at rm
  obtain ⟨u,rfl⟩:∃ u:Nat,r=(u:Int):=⟨r.toNat,by omega⟩
  have hu:u < ls.length:=by omega
  have hW3:=s3.keep _ _ hW2 (by simpa using Wp)
  have hD3:=s3.keep _ _ hD2 (by simpa using fun z:D=p=>pD z.symm)
  have eu:ls[u]?=some ls[u]:=List.getElem?_eq_getElem hu
  refine ⟨W',_,_,u,.str ls[u],rfl,rfl,hW3,by omega,by omega,?_,by rw [List.getElem?_map,eu]; rfl,?_⟩
  ·rw [PySem.seqIndex_of (by omega) (by rw [List.length_map]; omega),Int.toNat_natCast]
  rw [z80]
  have t4:=SB.set (ps:=[D,W',p]) hW3 (by simp) (.lst ((ls.eraseIdx u).map V.str))
  have hW4:upd H3 W' (.lst ((ls.eraseIdx u).map V.str)) W'=some (.lst ((ls.eraseIdx u).map V.str)):=upd_same
  have hD4:upd H3 W' (.lst ((ls.eraseIdx u).map V.str)) D=some (.lst (os.map V.str)):=by rw [upd_ne (fun z=>WD z.symm)]; exact hD3
  have hp4:Pu (upd H3 W' (.lst ((ls.eraseIdx u).map V.str))) p:=hp3.keep (SB.set (ps:=[W']) hW3 (by simp) _) (by simpa using fun z:p=W'=>Wp z.symm)
  generalize upd H3 W' (.lst ((ls.eraseIdx u).map V.str))=H4 at t4 hW4 hD4 hp4
  refine ⟨D,_,_,rfl,rfl,hD4,by rw [List.length_map]; omega,?_⟩
  have t5:=SB.set (ps:=[D,W',p]) hD4 (by simp) (.lst ((os++[ls[u]]).map V.str))
  have e5:(os.map V.str++[V.str ls[u]])=(os++[ls[u]]).map V.str:=by rw [List.map_append]; rfl
  rw [e5]
  refine ⟨ls.eraseIdx u,?_,((s2.trans (s3.mono (by simp))).trans t4).trans t5,hp4.keep (SB.set (ps:=[D]) hD4 (by simp) _) (by simpa using pD),os++[ls[u]],rfl,?_,upd_same,?_⟩
  ·rw [List.length_eraseIdx,if_pos hu]
   omega
  ·rw [upd_ne WD]; exact hW4
  ·rw [List.append_assoc]
   exact (List.Perm.append_left os (z6m eu)).trans pm
 ·obtain ⟨s2,hp2,os,rfl,hW2,hD2,pm⟩:=h2
  rw [List.append_nil] at pm
  exact ⟨_,rfl,q D os _ ((s2.drop nD).drop nW') hp2 nD hD2 (by rw [pm.length_eq,wl]) (fun k hk=>wok k (pm.mem_iff.mp hk)) (pm.nodup_iff.mpr wn)⟩
abbrev zed:List Str:=["_law_purse_here","_law_names_here","_law_under","_law_left","_law_rows","_law_turn","_law_kind","_law_inner","_law_some","_law_row"]
theorem sc_q10:FnScope zed ["_law_purse_here","_law_names_here","_law_under","_law_left"] (defScope z3r):=⟨rfl,rfl,rfl,by decide +kernel,rfl,by decide +kernel,by decide +kernel⟩
theorem zd2 {ps:List Str} {k:Nat}:FnOk P w K mg base CX0 k f fd ps (z1g K 0):=z16 fun vs H Q E ⟨p,nl,l,ks,u,c,_,_,_,_,h1,h,_⟩=>by omega
theorem zgq {n:Nat} (B:BI mg) (G_q7:Got P w K mg base "_law_draw" ["_law_purse_here","_law_many"] (1) (z13)) (G_q10:Got P w K mg base "_law_grove" ["_law_purse_here","_law_names_here","_law_under","_law_left"] (n+1) (z1g K n)) (F:Fun K "_law_grove" "_law_grove" z3r f fd):FnOk P w K mg base CX0 (n+2) f fd ["_law_purse_here","_law_names_here","_law_under","_law_left"] (z1g K (n+1)):=by
 refine F.ok sc_q10 (fun vs H Q E h=>?_) (fun cdv A outer s H vs Q E hr h=>?_)
 ·obtain ⟨p,nl,l,ks,u,c,rfl,_⟩:=h
  rfl
 obtain ⟨p,nl,l,ks,u,c,rfl,hp,⟨hn,np,nnl,kl,kok⟩,⟨hl,lp⟩,u1,um,u10,c10,q⟩:=h
 have hun2:=hunT hr
 refine ⟨_,pss_cons (ps_set (i:=4) sc_q10.nd rfl (.inl rfl) (pe_lst pa_nil))
  (pss_cons (ps_for PassesOwn.never rfl (pi_range1 rfl B.range (pa_cons (z00 G_q7 (hr.mono (by omega)) rfl (pa_cons (pv 0) (pa_cons pe_int pa_nil))) pa_nil)) (pg_name (i:=5) sc_q10.nd rfl (.inl rfl))
   (pss_one (ps_if (PW.pt (pw_and (pt_cmpR op_gt (pe_ix ix_list (pv 3) pe_int (fun _ _=>rfl)) pe_int (nomark _)) (pw_and1 (pt_cmpR (op_neD (by show A.units+3+64 < cLine; omega)) (pv 1) (pe_lst pa_nil) (nomark _))))) (pss_cons (ps_asg (pe_op op_sub (pe_ix ix_list (pv 3) pe_int (fun _ _=>rfl)) pe_int) (pg_sub (pv 3) pe_int set_list))
  (pss_cons (ps_set (i:=6) sc_q10.nd rfl (.inr rfl) (pe_ix ix_list (pv 1) (z00 G_q7 (hr.mono (by omega)) rfl (pa_cons (pv 0) (pa_cons (pe_callB call_len_seq rfl B.len PySem.boot_len (pa_cons (pv 1) pa_nil)) pa_nil))) (fun _ _=>rfl)))
  (pss_cons (ps_set (i:=7) sc_q10.nd rfl (.inr rfl) (pe_tup pa_nil))
  (pss_cons (ps_if (PW.pt (pw_and (pt_cmpR op_gt (pv 2) pe_int (nomark _)) (pw_and1 (pt_cmpR op_eq (z00 G_q7 (hr.mono (by omega)) rfl (pa_cons (pv 0) (pa_cons pe_int pa_nil))) pe_int (nomark _))))) (pss_one (ps_set (i:=7) sc_q10.nd rfl (.inr rfl) (z00 G_q10 (hr.mono (by omega)) rfl (pa_cons (pv 0) (pa_cons (pv 1) (pa_cons (pe_op op_sub (pv 2) pe_int) (pa_cons (pv 3) pa_nil))))))) pss_nil)
  (pss_cons (ps_set (i:=8) sc_q10.nd rfl (.inl rfl) (pe_lst (pa_cons pe_int (pa_cons (pe_op op_add pe_int (z00 G_q7 (hr.mono (by omega)) rfl (pa_cons (pv 0) (pa_cons pe_int pa_nil)))) (pa_cons (pe_op op_add pe_int (z00 G_q7 (hr.mono (by omega)) rfl (pa_cons (pv 0) (pa_cons (pe_op op_pow pe_int pe_int) pa_nil)))) pa_nil)))))
  (pss_one (ps_set (i:=4) sc_q10.nd rfl (.inl rfl) (pe_op op_cat (pe_lc (own:=[("_law_row",9)]) (g:=(gName 9)) (tt:=(tTest (tOp (rNeD K) (tOp (rIxT K) (tVar 9) (tC (.int 0))) (tTup (tCons (tVar 6) (tCons (tVar 7) tNil)))))) (te:=(tVar 9)) rfl sc_q10.nd (pi_list (pv 4)) (blkOk_by (N:=zed) (sc:=defScope z3r) (by decide +kernel)) (fun _ _ _ _ _=>(pg_name (i:=9) sc_q10.nd rfl (.inl rfl))) (fun _ _ _ _ _=>(pts_one (pt_cmpR (op_neD (by show A.units+3+64 < cLine; omega)) (pe_ix ix_tup (pv 9) pe_int (fun _ _=>rfl)) (pe_tup (pa_cons (pv 6) (pa_cons (pv 7) pa_nil))) (nomark _)))) (fun _ _ _ _ _=>(pv 9))) (pe_lst (pa_cons (pe_tup (pa_cons (pe_tup (pa_cons (pv 6) (pa_cons (pv 7) pa_nil))) (pa_cons (pe_ix ix_list (pv 8) (z00 G_q7 (hr.mono (by omega)) rfl (pa_cons (pv 0) (pa_cons pe_int pa_nil))) (fun _ _=>rfl)) pa_nil))) pa_nil)))))))))) pss_nil)))
  (pss_one (ps_ret (pe_callTy call_tuple_of rfl B.tuple boot_tuple (pa_cons (pe_callB (zab Gr.pEnc (by show A.units+3+110 < cLine; omega)) rfl B.sorted (by decide +kernel) (pa_cons (pv 4) pa_nil)) pa_nil))))),?_⟩
 have szl:=sizeLine_eq
 refine ⟨by show 0<=sizeLine; decide,fun W0 nW0=>?_⟩
 have t1:=SB.new (ps:=[]) nW0 (.lst [])
 have hW1:upd H W0 (.lst []) W0=some (.lst []):=upd_same
 have hp1:=hp.sb t1
 have hl1:=t1.keep _ _ hl nmn
 have pW0:=hp.ne nW0
 generalize upd H W0 (.lst [])=H1 at t1 hW1 hp1 hl1
 refine z0d ?_
 refine ⟨_,rfl,p,4,rfl,hp1,by decide,by decide,fun r0 H2 r00 r04 s2 hp2=>?_⟩
 obtain ⟨rn,rfl⟩:∃ x:Nat,r0=(x:Int):=⟨r0.toNat,by omega⟩
 have lpl:l ∉ [p]:=by simpa using lp
 have npl:nl ∉ [p,l]:=by simp [np,nnl]
 have nWp:W0 ≠ p:=fun z=>pW0 z.symm
 refine ⟨(rn:Int),rfl,by omega,by omega,?_⟩
 refine for_it (walk_range (lo:=0) (n:=(rn:Int).toNat)) (fun i σ G=>∃ (W:Addr) (us:List V) (bs:List (Tr × Int)) (d:Nat) (o5 o6 o7 o8 o9:Option V),σ=[some (.ref p),some (.ref nl),some (.int (u:Int)),some (.ref l),some (.ref W),o5,o6,o7,o8,o9]/\SB [p,l] H G/\Pu G p/\G l=some (.lst [.int (d:Int)])/\(H W=none/\W ≠ p/\W ≠ nl/\W ≠ l)/\G W=some (.lst us)/\Bears K G Gr.pEnc us bs/\bs.Pairwise (fun p q=>p.1 ≠ q.1)/\(∀ x ∈ bs,x.1.1 ∈ ks/\x.1.2.Ok (10 ^ 9+1)/\1<=x.2/\x.2 < 10 ^ 9+1/\x.1.2.deep < u/\Gr.Named ks x.1.2)/\Gr.tot bs+d<=c)
  ⟨W0,[],[],c,_,_,_,_,_,rfl,(t1.nil.trans s2).mono (by simp),hp2,s2.keep _ _ hl1 lpl,⟨nW0,nWp,(fun z=>by rw [z,hn] at nW0; cases nW0),(fun z=>by rw [z,hl] at nW0; cases nW0)⟩,s2.keep _ _ hW1 (by simpa using nWp),.nil,List.Pairwise.nil,by simp,by show 0+c<=c; omega⟩ (fun _ _ _ _ _=>trivial) (fun i x σ Hq H5 hi h y=>?_) (fun σ H9 h=>?_)
 ·clear hp2 s2 hW1 hp1 hl1 t1
  obtain ⟨W,us,bs,d,o5,o6,o7,o8,o9,rfl,s5,hp5,hl5,⟨nW,Wp,Wnl,Wl⟩,hW5,hb5,pw,hbs,htot⟩:=h
  obtain ⟨rfl,rfl⟩:=y
  refine ⟨_,rfl,l,_,_,_,rfl,rfl,SqL.of hl5,atI_nat (j:=0) rfl,_,_,rfl,rfl,_,rfl,?_⟩
  by_cases h0:0 < d
  ·rw [decide_eq_true (show (0:Int) < (d:Int) by omega)]
   refine iteT ?_
   have hn5:=s5.keep _ _ hn npl
   refine ⟨_,rfl,by show 0<=sizeLine; decide,fun z nz=>?_⟩
   have t6:=SB.new (ps:=[]) nz (.lst [])
   have hz6:upd H5 z (.lst []) z=some (.lst []):=upd_same
   have hn6:=t6.keep _ _ hn5 nmn
   refine ⟨.list (ks.map PyData.str),.list [],Dp.lst (SqL.of hn6) (z6q (z1v ks)),Dp.lst (SqL.of hz6) .nil,z4n kok,by decide +kernel,_,rfl,?_⟩
   have hp6:=hp5.sb t6
   have hl6:=t6.keep _ _ hl5 nmn
   have hW6:=t6.keep _ _ hW5 nmn
   have hb6:=hb5.sb t6 Gr.noList_pEnc
   have s6:=s5.trans (t6.nil (ps:=[p,l]))
   by_cases hk:ks=[]
   ·rw [hk]
    refine iteF ?_
    exact ⟨W,us,bs,d,_,_,_,_,_,rfl,s6,hp6,hl6,⟨nW,Wp,Wnl,Wl⟩,hW6,hb6,pw,fun x hx=>by have:=hbs x hx; rw [hk] at this; exact this,htot⟩
   rw [show (!PyData.eqv (.list (ks.map PyData.str)) (.list []))=true by cases ks with
    | nil=>exact absurd rfl hk
    | cons _ _=>simp [PyData.eqv,PyData.eqvAll]]
   refine iteT ?_
   generalize upd H5 z (.lst [])=H6 at t6 hz6 hn6 hp6 hl6 hW6 hb6 s6
   have kpos:0 < ks.length:=List.length_pos_iff.mpr hk
   refine ⟨_,rfl,l,_,_,_,rfl,rfl,SqL.of hl6,atI_nat (j:=0) rfl,_,_,rfl,rfl,?_⟩
   obtain ⟨d1,rfl⟩:∃ d1,d=d1+1:=⟨d-1,by omega⟩
   have ed:((d1+1:Nat):Int)-1=(d1:Int):=by omega
   refine ⟨_,rfl,l,_,_,_,rfl,rfl,hl6,rfl,?_⟩
   have t7:=SB.set (ps:=[p,l]) hl6 (by simp) (.lst [.int (d1:Int)])
   have hl7:upd H6 l (.lst [.int (d1:Int)]) l=some (.lst [.int (d1:Int)]):=upd_same
   have pl:p ≠ l:=fun z=>lp z.symm
   have hp7:Pu (upd H6 l (.lst [.int (d1:Int)])) p:=hp6.keep (SB.set (ps:=[l]) hl6 (by simp) _) (by simpa using pl)
   have hn7:=t7.keep _ _ hn6 npl
   have hW7:=(SB.set (ps:=[l]) hl6 (by simp) (.lst [.int (d1:Int)])).keep _ _ hW6 (by simpa using Wl)
   have hb7:=hb6.sb t7 Gr.noList_pEnc
   have s7:=s6.trans t7
   refine zje ?_
   show tSeq _ _ _ _ (upd H6 l (.lst [.int (((d1+1:Nat):Int)-1)]))
   rw [ed]
   generalize upd H6 l (.lst [.int (d1:Int)])=H7 at t7 hl7 hp7 hn7 hW7 hb7 s7
   refine ⟨_,rfl,_,rfl,_,rfl,nl,_,rfl,.inl (SqL.of hn7),p,_,rfl,hp7,by rw [List.length_map]; omega,by rw [List.length_map]; omega,fun r1 H8 r10 r1m s8 hp8=>?_⟩
   rw [List.length_map] at r1m
   have pnl:nl ∉ [p]:=by simpa using np
   have hn8:=s8.keep _ _ hn7 pnl
   have hl8:=s8.keep _ _ hl7 lpl
   have hW8:=s8.keep _ _ hW7 (by simpa using Wp)
   have hb8:=hb7.sb s8 Gr.noList_pEnc
   have s08:=s7.trans (s8.mono (qs:=[p,l]) (by simp))
   obtain ⟨kn,hkn,hkm⟩:∃ kn,atI (ks.map V.str) r1=some (.str kn)/\kn ∈ ks:=by
    obtain ⟨x,rfl⟩:∃ x:Nat,r1=(x:Int):=⟨r1.toNat,by omega⟩
    have hu2:x < ks.length:=by omega
    refine ⟨ks[x],atI_nat (j:=x) ?_,List.getElem_mem hu2⟩
    rw [List.getElem?_map,List.getElem?_eq_getElem hu2]; rfl
   refine ⟨nl,_,_,_,rfl,rfl,SqL.of hn8,hkn,?_⟩
   refine ⟨by show 0<=sizeLine; decide,fun e0 ne0=>?_⟩
   have t9:=SB.new (ps:=[]) ne0 (.tup [])
   have hg9:GA K (upd H8 e0 (.tup [])) (.ref e0) .nil:=zis (SqT.of upd_same)
   have hp9:=hp8.sb t9
   have hn9:=t9.keep _ _ hn8 nmn
   have hl9:=t9.keep _ _ hl8 nmn
   have hW9:=t9.keep _ _ hW8 nmn
   have hb9:=hb8.sb t9 Gr.noList_pEnc
   have s09:=s08.trans (t9.nil (ps:=[p,l]))
   clear hp8 hp7 hp6 hl8 hl7 hl6 hW8 hW7 hW6 hb8 hb7 hb6 hn8 hn7 hn6 hn5 s8 t7 t6
   generalize upd H8 e0 (.tup [])=H9 at t9 hg9 hp9 hn9 hl9 hW9 hb9 s09
   refine z0d ?_
   refine z5s (fun σ' G=>∃ (gv:V) (t:Gr) (d2:Nat) (o8 o9:Option V),σ'=[some (.ref p),some (.ref nl),some (.int (u:Int)),some (.ref l),some (.ref W),some (.int (0+(i:Int))),some (.str kn),some gv,o8,o9]/\SB [p,l] H9 G/\Pu G p/\G l=some (.lst [.int (d2:Int)])/\GA K G gv t/\t.Ok (10 ^ 9+1)/\t.parts+d2<=d1/\t.deep < u/\Gr.Named ks t) (fun nx hnx=>?_) (fun σ' G h=>?_)
   ·have out:∀ (G:Hp),SB [p] H9 G->Pu G p->nx [some (.ref p),some (.ref nl),some (.int (u:Int)),some (.ref l),some (.ref W),some (.int (0+(i:Int))),some (.str kn),some (.ref e0),o8,o9] G:=fun G sG hpG=>hnx _ _ ⟨.ref e0,.nil,d1,_,_,rfl,sG.mono (by simp),hpG,sG.keep _ _ hl9 lpl,hg9.sb sG,trivial,by show 0+d1<=d1; omega,by show 0 < u; omega,fun x hx=>absurd hx nmn⟩
    refine ⟨_,rfl,_,_,rfl,rfl,_,rfl,?_⟩
    by_cases hu:1 < u
    ·rw [decide_eq_true (show (1:Int) < (u:Int) by omega)]
     refine iteT ?_
     refine ⟨_,rfl,p,2,rfl,hp9,by decide,by decide,fun r2 G r20 r22 s10 hp10=>?_⟩
     refine ⟨rfl,_,rfl,?_⟩
     refine ite2 (fun _=>?_) (fun _=>out _ s10 hp10)
     have hn10:=s10.keep _ _ hn9 pnl
     have hl10:=s10.keep _ _ hl9 lpl
     refine ⟨_,rfl,_,rfl,_,rfl,_,_,rfl,rfl,?_⟩
     dsimp only
     rw [show (u:Int)-1=((u-1:Nat):Int) by omega]
     refine ⟨_,rfl,p,nl,l,ks,u-1,d1,rfl,hp10,⟨hn10,np,nnl,kl,kok⟩,⟨hl10,lp⟩,by omega,by omega,by omega,by omega,fun gv t d2 G2 s11 hp11 hl11 hgv tok tpt tdp tnm=>?_⟩
     exact hnx _ _ ⟨gv,t,d2,_,_,rfl,(s10.mono (qs:=[p,l]) (by simp)).trans s11,hp11,hl11,hgv,tok,tpt,by omega,tnm⟩
    ·rw [decide_eq_false (show ¬ (1:Int) < (u:Int) by omega)]
     exact iteF (iteF (out _ SB.refl hp9))
   obtain ⟨gv,t,d2,o8',o9',rfl,s10,hp10,hl10,hgv,tok,tpt,tdp,tnm⟩:=h
   have n9p:∀ q ∈ [p,l],H9 q ≠ none:=fun q hq=>by
    rcases List.mem_cons.mp hq with e | hq
    ·rw [e]; exact Pu.some hp9 p (by simp)
    ·rw [List.mem_singleton.mp hq,hl9]; exact fun z=>nomatch z
   have Wpl:W ∉ [p,l]:=by simp [Wp,Wl]
   have hW10:=s10.keep _ _ hW9 Wpl
   have hb10:=hb9.sb s10 Gr.noList_pEnc
   have s010:=s09.trans s10
   refine ⟨_,rfl,p,4,rfl,hp10,by decide,by decide,fun ra G1 ra0 ra4 s11 hp11=>?_⟩
   refine ⟨_,_,rfl,rfl,?_⟩
   refine ⟨_,rfl,_,_,rfl,rfl,⟨by decide,by decide,by decide⟩,p,_,rfl,hp11,by decide,by decide,fun rb G2 rb0 rbm s12 hp12=>?_⟩
   refine ⟨_,_,rfl,rfl,?_⟩
   refine ⟨by show 3<=sizeLine; decide,fun la nla=>?_⟩
   have t13:=SB.new (ps:=[]) nla (.lst [.int 1,.int (1+ra),.int (1+rb)])
   have hla13:upd G2 la (.lst [.int 1,.int (1+ra),.int (1+rb)]) la=some (.lst [.int 1,.int (1+ra),.int (1+rb)]):=upd_same
   have hp13:=hp12.sb t13
   have lap:la ∉ [p]:=by simpa using fun z:la=p=>hp12.ne nla z.symm
   have s1013:SB [p] G (upd G2 la (.lst [.int 1,.int (1+ra),.int (1+rb)])):=(s11.trans s12).trans t13.nil
   generalize upd G2 la (.lst [.int 1,.int (1+ra),.int (1+rb)])=G3 at t13 hla13 hp13 s1013
   have hl13:=s1013.keep _ _ hl10 lpl
   have hW13:=s1013.keep _ _ hW10 (by simpa using Wp)
   have hb13:=hb10.sb s1013 Gr.noList_pEnc
   have hgv13:=hgv.sb s1013
   have s013:=s010.trans (s1013.mono (qs:=[p,l]) (by simp))
   have ul:=hb13.length
   have lt:=Gr.len_tot bs
   have sht:SeqAt.shaped (Gr.tEnc (kn,t))=true:=Gr.shaped_tEnc (kok kn hkm) tok (by show t.deep<=20; omega)
   have shb:∀ x ∈ bs,SeqAt.shaped (Gr.tEnc x.1)=true:=fun x hx=>Gr.shaped_tEnc (kok _ (hbs x hx).1) (hbs x hx).2.1 (by have:=(hbs x hx).2.2.2.2.1; omega)
   refine z0d ?_
   refine ⟨_,rfl,W,rfl,⟨_,SqL.of hW13⟩,fun D2 nD2=>?_⟩
   refine z0f (walk_list (xs:=us)) nD2 (by omega) (fun i ws H2=>Bears K H2 Gr.pEnc ws ((bs.take i).filter fun x=>decide (x.1 ≠ (kn,t)))) .nil (fun H2 s2=>s2.sqL nmn (SqL.of hW13)) (fun _ _ _ _ s h=>h.sb s Gr.noList_pEnc) (fun Pv j x Hq H2 ws hj s2 y hR hu fin skip=>?_) (fun ws H14 s14 hD14 hR hu=>?_)
   ·obtain ⟨rfl,ey⟩:=y
    obtain ⟨x0,ex,hpd⟩:=hb13.get ey
    obtain ⟨ad,td,ux,rfl,hs2,hs3,hga,htd⟩:=z0x hpd
    refine ⟨rfl,?_⟩
    refine ⟨_,rfl,ad,_,_,.ref td,rfl,rfl,s2.sqT hs2,rfl,_,rfl,_,rfl,by show 2<=sizeLine; decide,fun T nT=>?_⟩
    have t3:=SB.new (ps:=[]) nT (.tup [.str kn,gv])
    have hdt:Dp K (upd H2 T (.tup [.str kn,gv])) (.ref T) (Gr.tEnc (kn,t)):=Dp.tup (SqT.of upd_same) (.cons (.str _) (.cons (hgv13.sb (s2.trans t3)) .nil))
    refine ⟨Gr.tEnc x0.1,Gr.tEnc (kn,t),z0e (s2.trans t3) _ _ (Gr.noList_tEnc _) htd,hdt,shb x0 (List.mem_of_getElem? ex),sht,_,rfl,?_⟩
    have hR3:=hR.sb t3 Gr.noList_pEnc
    rw [Orderly.eq (enc:=Gr.tEnc)]
    by_cases he:x0.1=(kn,t)
    ·rw [decide_eq_true he]
     refine iteF (skip _ t3 ?_)
     rw [List.take_add_one,ex]
     simpa [he] using hR3
    ·rw [decide_eq_false he]
     refine iteT ⟨_,rfl,fin _ _ t3 ?_⟩
     rw [List.take_add_one,ex,List.filter_append]
     have:(List.filter (fun x=>decide (x.1 ≠ (kn,t))) (some x0).toList)=[x0]:=by simp [he]
     rw [this]
     exact hR3.append (.cons (z0e (s2.trans t3) _ _ (Gr.noList_pEnc _) hpd) .nil)
   rw [ul,List.take_length] at hR
   have hl14:=s14.keep _ _ hl13 nmn
   have hla14:=s14.keep _ _ hla13 nmn
   have hp14:=hp13.sb s14
   have hgv14:=hgv13.sb s14
   have nD2G:D2 ≠ p:=fun z=>hp13.ne nD2 z.symm
   refine ⟨_,rfl,_,rfl,by show 2<=sizeLine; decide,fun T nT=>?_⟩
   have t15:=SB.new (ps:=[]) nT (.tup [.str kn,gv])
   have hdt15:Dp K (upd H14 T (.tup [.str kn,gv])) (.ref T) (Gr.tEnc (kn,t)):=Dp.tup (SqT.of upd_same) (.cons (.str _) (.cons (hgv14.sb t15) .nil))
   have hp15:=hp14.sb t15
   have hl15:=t15.keep _ _ hl14 nmn
   have hla15:=t15.keep _ _ hla14 nmn
   have hD15:=t15.keep _ _ hD14 nmn
   have hR15:=hR.sb t15 Gr.noList_pEnc
   have s015:=s013.trans (s14.trans t15).nil
   clear hR hla13 hp13 hl13 hgv13 hla14 hp14 hl14 hgv14 hD14
   generalize upd H14 T (.tup [.str kn,gv])=H15 at t15 hdt15 hp15 hl15 hla15 hD15 hR15 s015
   refine ⟨_,rfl,_,rfl,p,3,rfl,hp15,by decide,by decide,fun rc H16 rc0 rc3 s16 hp16=>?_⟩
   obtain ⟨z,hz,z1,zb⟩:∃ z:Int,atI [V.int 1,V.int (1+ra),V.int (1+rb)] rc=some (.int z)/\1<=z/\z < 10 ^ 9+1:=by
    have hrb:rb < 10 ^ 9:=rbm
    have:rc=0\/rc=1\/rc=2:=by omega
    rcases this with h | h | h <;> subst h
    ·exact ⟨1,rfl,by omega,by decide⟩
    ·exact ⟨1+ra,rfl,by omega,by omega⟩
    ·exact ⟨1+rb,rfl,by omega,by omega⟩
   have hla16:=s16.keep _ _ hla15 lap
   have hl16:=s16.keep _ _ hl15 lpl
   have hD16:=s16.keep _ _ hD15 (by simpa using nD2G)
   have hR16:=hR15.sb s16 Gr.noList_pEnc
   have hdt16:=z0e s16 _ _ (Gr.noList_tEnc _) hdt15
   have s016:=s015.trans (s16.mono (qs:=[p,l]) (by simp))
   refine ⟨la,_,_,_,rfl,rfl,SqL.of hla16,hz,?_⟩
   refine ⟨by show 2<=sizeLine; decide,fun pr npr=>?_⟩
   have t17:=SB.new (ps:=[]) npr (.tup [.ref T,.int z])
   refine ⟨by show 1<=sizeLine; decide,fun L2 nL2=>?_⟩
   have t18:=SB.new (ps:=[]) nL2 (.lst [.ref pr])
   have t78:=t17.trans t18
   have hL2:upd (upd H16 pr (.tup [.ref T,.int z])) L2 (.lst [.ref pr]) L2=some (.lst [.ref pr]):=upd_same
   have hpair:Dp K (upd (upd H16 pr (.tup [.ref T,.int z])) L2 (.lst [.ref pr])) (.ref pr) (Gr.pEnc ((kn,t),z)):=z77 (enc:=Gr.tEnc) (g:=(kn,t)) (t18.sqT (SqT.of upd_same)) (z0e t78 _ _ (Gr.noList_tEnc _) hdt16)
   have hD18:=t78.keep _ _ hD16 nmn
   have hl18:=t78.keep _ _ hl16 nmn
   have hR18:=hR16.sb t78 Gr.noList_pEnc
   have hp18:=hp16.sb t78
   have s018:=s016.trans (t78.nil (ps:=[p,l]))
   generalize upd (upd H16 pr (.tup [.ref T,.int z])) L2 (.lst [.ref pr])=H18 at t18 t78 hL2 hpair hD18 hl18 hR18 hp18 s018
   have wl:=hR18.length
   have fl:=List.length_filter_le (fun x:Tr × Int=>decide (x.1 ≠ (kn,t))) bs
   refine ⟨D2,L2,_,_,rfl,rfl,hD18,hL2,by rw [wl,List.length_singleton]; omega,fun L3 nL3=>?_⟩
   have t19:=SB.new (ps:=[]) nL3 (.lst (ws++[.ref pr]))
   have s019:=s018.trans (t19.nil (ps:=[p,l]))
   have nL30:H L3=none:=s018.dom _ nL3
   refine ⟨L3,_,(bs.filter fun x=>decide (x.1 ≠ (kn,t)))++[((kn,t),z)],d2,_,_,_,_,_,rfl,s019,hp18.sb t19,t19.keep _ _ hl18 nmn,⟨nL30,(fun z=>hp.ne nL30 z.symm),(fun z=>by rw [z,hn] at nL30; cases nL30),fun z=>by rw [z,hl] at nL30; cases nL30⟩,upd_same,?_,?_,?_,?_⟩
   ·exact (hR18.append (.cons hpair .nil)).sb t19 Gr.noList_pEnc
   ·refine List.pairwise_append.mpr ⟨pw.filter _,List.pairwise_singleton _ _,fun x hx y hy=>?_⟩
    rw [List.mem_singleton.mp hy]
    have:=(List.mem_filter.mp hx).2
    simpa using this
   ·intro x hx
    rcases List.mem_append.mp hx with hx | hx
    ·exact hbs x (List.mem_filter.mp hx).1
    ·rw [List.mem_singleton.mp hx]
     exact ⟨hkm,tok,z1,zb,tdp,tnm⟩
   ·rw [Gr.tot_append]
    show Gr.tot _+(1+t.parts+0)+_<=_
    have:=z9j (fun x=>decide (x.1 ≠ (kn,t))) bs
    omega
  ·rw [decide_eq_false (show ¬ (0:Int) < (d:Int) by omega)]
   exact iteF (iteF ⟨W,us,bs,d,_,_,_,_,_,rfl,s5,hp5,hl5,⟨nW,Wp,Wnl,Wl⟩,hW5,hb5,pw,hbs,htot⟩)
 ·obtain ⟨W,us,bs,d,o5,o6,o7,o8,o9,rfl,s9,hp9,hl9,_,hW9,hb9,pw,hbs,htot⟩:=h
  have lt:=Gr.len_tot bs
  refine ⟨_,rfl,W,us,bs,rfl,.inl (SqL.of hW9),hb9,Gr.pEnc_all _,Gr.pEnc_sortable _,by omega,fun x hx=>?_,fun a ys na hys=>?_⟩
  ·have e1:=Gr.pEnc_depth x
   have e2:=(hbs x hx).2.2.2.2.1
   omega
  have u1:=SB.new (ps:=[]) na (.lst ys)
  refine ⟨a,ys,rfl,.inl ⟨SqL.of upd_same,fun kt nkt=>?_⟩⟩
  have u2:=SB.new (ps:=[]) nkt (.tup ys)
  have u12:=u1.trans u2
  have et:Gr.tidy bs=Gr.ofPs (srtE Gr.pEnc bs):=by unfold Gr.tidy; rw [(Gr.tdy_self pw).2]
  refine q _ (Gr.tidy bs) d _ (s9.trans u12.nil) (hp9.sb u12) (u12.keep _ _ hl9 nmn) ?_ ?_ (Nat.le_trans (Nat.add_le_add_right (Gr.tidy_parts bs) d) htot) (Gr.tidy_deep fun x hx=>(hbs x hx).2.2.2.2.1) ?_
  ·rw [et]
   exact zd9 (SqT.of upd_same) (hys.sb u12 Gr.noList_pEnc)
  ·have hall:=zgm (bs:=bs) (C:=10 ^ 9) fun x hx=>by have:=(hbs x hx).2.2.2.1; omega
   have hmul:(bs.length:Int)*10 ^ 9<=10*10 ^ 9:=Int.mul_le_mul_of_nonneg_right (by omega) (by decide)
   have o1:(Gr.tidy bs).Ok (10*10 ^ 9+1):=Gr.tidy_ok (C:=10 ^ 9+1) (fun x hx=>⟨kok _ (hbs x hx).1,(hbs x hx).2.1,(hbs x hx).2.2.1⟩) (by omega) (by decide)
   refine Gr.ok_less o1 fun x hx=>?_
   rw [et,Gr.ps_ofPs] at hx
   have hx:=(z0v (enc:=Gr.pEnc) bs).mem_iff.mp hx
   exact ⟨(hbs x hx).2.1,(hbs x hx).2.2.2.1⟩
  ·refine Gr.named_iff.mpr fun x hx=>?_
   unfold Gr.tidy at hx
   rw [Gr.ps_ofPs] at hx
   obtain ⟨y,hy,e⟩:=z1b (enc:=Gr.tEnc) bs x hx
   rw [<- e]
   exact ⟨(hbs y hy).1,(hbs y hy).2.2.2.2.2⟩
abbrev zjt:List Str:=["_law_grove_here","_law_found","_law_tree","_law_many"]
theorem sc_q18:FnScope zjt ["_law_grove_here"] (defScope z5x):=⟨rfl,rfl,rfl,by decide +kernel,rfl,by decide +kernel,by decide +kernel⟩
theorem zci {ps:List Str} {k:Nat}:FnOk P w K mg base CX0 k f fd ps (z21 K 0):=z16 fun vs H Q E ⟨v,g,_,_,h,_⟩=>by omega
theorem zig {n:Nat} (B:BI mg) (G_q18:Got P w K mg base "_law_stands" ["_law_grove_here"] (n) (z21 K n)) (F:Fun K "_law_stands" "_law_stands" z5x f fd):FnOk P w K mg base CX0 (n+1) f fd ["_law_grove_here"] (z21 K (n+1)):=by
 refine F.ok sc_q18 (fun vs H Q E h=>?_) (fun cdv A outer s H vs Q E hr h=>?_)
 ·obtain ⟨v,g,rfl,_⟩:=h
  rfl
 obtain ⟨v,g,rfl,hv,hd,hp,q⟩:=h
 have hun2:=hunT hr
 refine ⟨_,pss_cons (ps_set (i:=1) sc_q18.nd rfl (.inl rfl) (pe_lst pa_nil))
  (pss_cons (ps_for PassesOwn.never rfl (pi_tup (pv 0)) (pg_tup rfl (pgs_cons (pg_name (i:=2) sc_q18.nd rfl (.inl rfl)) (pgs_cons (pg_name (i:=3) sc_q18.nd rfl (.inl rfl)) pgs_nil)))
   (pss_one (ps_set (i:=1) sc_q18.nd rfl (.inl rfl) (pe_op op_cat (pe_op op_cat (pv 1) (pe_lst (pa_cons (pe_ix ix_tup (pv 2) pe_int (fun _ _=>rfl)) pa_nil))) (z00 G_q18 (hr.mono (by omega)) rfl (pa_cons (pe_ix ix_tup (pv 2) pe_int (fun _ _=>rfl)) pa_nil))))))
  (pss_one (ps_ret (pv 1)))),?_⟩
 have szl:=sizeLine_eq
 obtain ⟨a,xs,rfl,hs,hb⟩:=z1m hv
 have xl:=hb.length
 have wl:=g.within_length
 refine ⟨(by show 0<=sizeLine; decide),fun D hD=>?_⟩
 have t1:=SB.new (ps:=[]) hD (.lst [])
 refine ⟨_,rfl,a,rfl,⟨xs,t1.sqT hs⟩,?_⟩
 refine for_it (walk_tup (xs:=xs)) (fun i σ H2=>SB [] H H2/\∃ (E:Addr) (o2 o3:Option V),σ=[some (.ref a),some (.ref E),o2,o3]/\H E=none/\H2 E=some (.lst ((((g.ps.take i).flatMap fun p=>p::p.1.2.within).map (·.1.1)).map V.str)))
  ⟨t1,D,none,none,rfl,hD,upd_same⟩ (fun i σ H2 hi h2=>h2.1.sqT hs) (fun i x σ Hq H2 hi h2 y=>?_) (fun σ H2 h2=>?_)
 ·obtain ⟨s2,E,o2,o3,rfl,nE,hE2⟩:=h2
  obtain ⟨rfl,ex⟩:=y
  obtain ⟨p,ep,hpd⟩:=hb.get ex
  have pm:=List.mem_of_getElem? ep
  have pd:=g.mem_deep p pm
  have pp:=g.mem_parts p pm
  obtain ⟨ad,td,ux,rfl,hs2,hs3,hga,hdt⟩:=z0x hpd
  have hsplit:(g.ps.take (i+1)).flatMap (fun p=>p::p.1.2.within)=(g.ps.take i).flatMap (fun p=>p::p.1.2.within)++(p::p.1.2.within):=by rw [List.take_add_one,ep]; simp
  have hle:((g.ps.take i).flatMap (fun p=>p::p.1.2.within)).length+(p.1.2.within.length+1)<=60:=by
   have h1:g.within=(g.ps.take (i+1)).flatMap (fun p=>p::p.1.2.within)++(g.ps.drop (i+1)).flatMap (fun p=>p::p.1.2.within):=by rw [Gr.within_ps,<- List.flatMap_append,List.take_append_drop]
   have h2:=congrArg List.length h1
   rw [hsplit,List.length_append,List.length_append,List.length_cons,wl] at h2
   omega
  refine ⟨ad,_,rfl,s2.sqT hs2,rfl,_,_,rfl,_,_,rfl,rfl,?_⟩
  refine ⟨_,rfl,_,rfl,td,_,_,_,rfl,rfl,s2.sqT hs3,atI_nat (j:=0) rfl,by show 1<=sizeLine; decide,fun L hL=>?_⟩
  have t3:=SB.new (ps:=[]) hL (.lst [.str p.1.1])
  have hL3:upd H2 L (.lst [.str p.1.1]) L=some (.lst [.str p.1.1]):=upd_same
  generalize upd H2 L (.lst [.str p.1.1])=H3 at t3 hL3
  have hE3:=t3.keep _ _ hE2 nmn
  refine ⟨E,L,_,_,rfl,rfl,hE3,hL3,by simp only [List.length_map,List.length_cons,List.length_nil]; omega,fun M hM=>?_⟩
  have t4:=SB.new (ps:=[]) hM (.lst ((((g.ps.take i).flatMap fun p=>p::p.1.2.within).map (·.1.1)).map V.str++[.str p.1.1]))
  have hM4:upd H3 M (.lst ((((g.ps.take i).flatMap fun p=>p::p.1.2.within).map (·.1.1)).map V.str++[.str p.1.1])) M=some (.lst ((((g.ps.take i).flatMap fun p=>p::p.1.2.within).map (·.1.1)).map V.str++[.str p.1.1])):=upd_same
  generalize upd H3 M (.lst ((((g.ps.take i).flatMap fun p=>p::p.1.2.within).map (·.1.1)).map V.str++[.str p.1.1]))=H4 at t4 hM4
  have s24:=t3.trans t4
  have s4:=s2.trans s24
  refine ⟨_,rfl,td,_,_,_,rfl,rfl,s4.sqT hs3,atI_nat (j:=1) rfl,ux,p.1.2,rfl,hga.sb s4,by omega,by omega,fun N H5 s5 nN hN=>?_⟩
  have hM5:=s5.keep _ _ hM4 nmn
  refine ⟨M,N,_,_,rfl,rfl,hM5,hN,by simp only [List.length_append,List.length_map,List.length_cons,List.length_nil]; omega,fun R hR=>?_⟩
  have t6:=SB.new (ps:=[]) hR (.lst (((((g.ps.take i).flatMap fun p=>p::p.1.2.within).map (·.1.1)).map V.str++[.str p.1.1])++(p.1.2.within.map (·.1.1)).map V.str))
  refine ⟨(s4.trans s5).trans t6,R,_,_,rfl,(s4.trans s5).dom _ hR,?_⟩
  rw [upd_same,hsplit]
  simp
 ·obtain ⟨s2,E,o2,o3,rfl,nE,hE2⟩:=h2
  rw [xl,List.take_length,<- Gr.within_ps] at hE2
  exact ⟨_,rfl,q E H2 s2 nE hE2⟩
abbrev ze7:List Str:=["_law_kinds_here","_law_name","_law_found","_law_waiting","_law_here","_law_kind","_law_spreading","_law_told","_law_once","_law_each","_law_more","_law_other"]
theorem sc_q16:FnScope ze7 ["_law_kinds_here","_law_name"] (defScope z3n):=⟨rfl,rfl,rfl,by decide +kernel,rfl,by decide +kernel,by decide +kernel⟩
theorem zii (B:BI mg) (G_q18:Got P w K mg base "_law_stands" ["_law_grove_here"] (20) (z21 K 20)) (F:Fun K "_law_reached" "_law_reached" z3n f fd):FnOk P w K mg base CX0 (21) f fd ["_law_kinds_here","_law_name"] (z3q K):=by
 refine F.ok sc_q16 (fun vs H Q E h=>?_) (fun cdv A outer s H vs Q E hr h=>?_)
 ·obtain ⟨l,xs,b,n,rfl,_⟩:=h
  rfl
 obtain ⟨l,xs,b,n,rfl,hl,ha,ok,hn,q⟩:=h
 have hun2:=hunT hr
 refine ⟨_,pss_cons (ps_set (i:=2) sc_q16.nd rfl (.inr rfl) (pe_lst pa_nil))
  (pss_cons (ps_set (i:=3) sc_q16.nd rfl (.inl rfl) (pe_lst (pa_cons (pv 1) pa_nil)))
  (pss_cons (ps_while PassesOwn.never (pt_cmpR (op_neD (by show A.units+3+64 < cLine; omega)) (pv 3) (pe_lst pa_nil) (nomark _)) (pss_cons (ps_set (i:=4) sc_q16.nd rfl (.inl rfl) (pe_bm0 PySem.F.plainAttrs_list PySem.F.slot_list_pop PySem.F.type_list_pop mt_pop (pv 3)))
  (pss_one (ps_for PassesOwn.never rfl (pi_list (pv 0)) (pg_tup rfl (pgs_cons (pg_name (i:=5) sc_q16.nd rfl (.inl rfl)) (pgs_cons (pg_name (i:=6) sc_q16.nd rfl (.inl rfl)) (pgs_cons (pg_name (i:=7) sc_q16.nd rfl (.inl rfl)) pgs_nil))))
   (pss_one (ps_if (pt_cmpR op_eq (pv 5) (pv 4) (nomark _)) (pss_one (ps_for PassesOwn.never rfl (pi_list (pv 7)) (pg_tup rfl (pgs_cons (pg_name (i:=8) sc_q16.nd rfl (.inl rfl)) (pgs_cons (pg_name (i:=9) sc_q16.nd rfl (.inl rfl)) pgs_nil)))
   (pss_cons (ps_setLc (i:=10) (own:=[("_law_other",11)]) (g:=(gName 11)) (tt:=(tTest (tOp (rIn K true) (tVar 11) (tVar 2)))) (te:=(tVar 11)) rfl sc_q16.nd rfl rfl (sw_true rfl rfl rfl (by decide +kernel)) (pi_list (pe_op op_cat (z00 G_q18 (hr.mono (by omega)) rfl (pa_cons (pv 8) pa_nil)) (z00 G_q18 (hr.mono (by omega)) rfl (pa_cons (pv 9) pa_nil)))) (blkOk_by (N:=ze7) (sc:=defScope z3n) (by decide +kernel)) (fun _ _ _ _ _=>(pg_name (i:=11) sc_q16.nd rfl (.inl rfl))) (fun _ _ _ _ _=>(pts_one (pt_cmpR op_notIn_seq (pv 11) (pv 2) (by rfl)))) (fun _ _ _ _ _=>(pv 11)))
  (pss_cons (ps_set (i:=2) sc_q16.nd rfl (.inr rfl) (pe_op op_cat (pv 2) (pv 10)))
  (pss_one (ps_set (i:=3) sc_q16.nd rfl (.inl rfl) (pe_op op_cat (pv 3) (pv 10)))))))) pss_nil))))))
  (pss_one (ps_ret (pv 2))))),?_⟩
 have szl:=sizeLine_eq
 have b8:=ok.len
 have xl:=ha.length
 refine ⟨by show 0<=sizeLine; decide,fun F0 nF0=>?_⟩
 have t1:=SB.new (ps:=[]) nF0 (.lst [])
 have hF1:upd H F0 (.lst []) F0=some (.lst (([]:List Str).map V.str)):=upd_same
 generalize upd H F0 (.lst [])=H1 at t1 hF1
 refine z0d ⟨_,rfl,by show 1<=sizeLine; decide,fun W0 nW0=>?_⟩
 have t2:=SB.new (ps:=[]) nW0 (.lst [.str n])
 have hW2:upd H1 W0 (.lst [.str n]) W0=some (.lst ([n].map V.str)):=upd_same
 have hF2:=t2.keep _ _ hF1 nmn
 have s02:=t1.trans t2
 have nW0H:H W0=none:=t1.dom _ nW0
 have FW0:F0 ≠ W0:=ne_of_none hF1 nW0
 generalize upd H1 W0 (.lst [.str n])=H2 at t2 hW2 hF2 s02
 refine z0d ⟨fun m σ H5=>∃ (fs ws:List Str) (Fo Wo:Addr) (o4 o5 o6 o7 o8 o9 o10:Option V),m=ws.length+5*misN b fs/\σ=[some (.ref l),some (.str n),some (.ref Fo),some (.ref Wo),o4,o5,o6,o7,o8,o9,o10,none]/\SB [] H H5/\H Fo=none/\H Wo=none/\Fo ≠ Wo/\H5 Fo=some (.lst (fs.map V.str))/\H5 Wo=some (.lst (ws.map V.str))/\fs.length+5*misN b fs<=50/\ws.length+5*misN b fs<=50/\(∀ x ∈ ws,x=n\/Rch b n x)/\(∀ x ∈ fs,Rch b n x)/\∀ x,x=n\/x ∈ fs->x ∈ ws\/∀ y ∈ adj b x,y ∈ fs,
  ⟨_,[],[n],F0,W0,_,_,_,_,_,_,_,rfl,rfl,s02,nF0,nW0H,FW0,hF2,hW2,by have:=za1 b []; show 0+_<=_; omega,by have:=za1 b []; show 1+_<=_; omega,(fun x hx=>.inl (List.mem_singleton.mp hx)),by simp,(fun x hx=>.inl (by simpa using hx))⟩,fun m σ H5 hW=>?_⟩
 clear hF2 hW2 t2 t1 hF1 nF0 nW0H FW0 s02 nW0
 obtain ⟨fs,ws,Fo,Wo,o4,o5,o6,o7,o8,o9,o10,rfl,rfl,s5,nFo,nWo,FW,hF5,hW5,b1,b2,wr,fr,cl⟩:=hW
 refine ⟨_,rfl,by show 0<=sizeLine; decide,fun Z nZ=>?_⟩
 have t6:=SB.new (ps:=[]) nZ (.lst [])
 have hZ6:upd H5 Z (.lst []) Z=some (.lst []):=upd_same
 generalize upd H5 Z (.lst [])=H6 at t6 hZ6
 have s6:=s5.trans t6
 have hF6:=t6.keep _ _ hF5 nmn
 have hW6:=t6.keep _ _ hW5 nmn
 have wsn:∀ x ∈ ws,x ∈ b.names:=fun x hx=>(wr x hx).elim (fun e=>e ▸ hn) fun r=>r.mem ok
 refine ⟨.list (ws.map .str),.list [],.lst (SqL.of hW6) (z5w K H6 ws),.lst (SqL.of hZ6) .nil,z2q fun x hx=>ok.names x (wsn x hx),by decide +kernel,_,rfl,?_⟩
 by_cases ehs:ws=[]
 ·subst ehs
  exact iteF ⟨_,rfl,q Fo fs H6 s6 nFo hF6 (by omega) fun x=>⟨fr x,fun r=>zaj (fun x hx=>(cl x hx).resolve_left (by simp)) r⟩⟩
 rw [show (!PyData.eqv (.list (ws.map .str)) (.list []))=true by
  cases h:ws with
  | nil=>exact absurd h ehs
  | cons _ _=>simp [PyData.eqv,PyData.eqvAll]]
 refine iteT ⟨_,fun σ' H' h=>h,?_⟩
 obtain ⟨js,h,rfl⟩:∃ js h,ws=js++[h]:=by
  rcases List.eq_nil_or_concat ws with e | ⟨js,h,e⟩
  ·exact absurd e ehs
  ·exact ⟨js,h,by rw [e,List.concat_eq_append]⟩
 have hb6:=z1v (K:=K) (H:=H6) (js++[h])
 refine zcf (j:=3) (enc:=PyData.str) rfl hW6 hb6 (fun _=>rfl) (fun us' u H7 s7 hW7 hb7 hu oth=>?_)
 cases hu
 have eus:us'=js.map V.str:=by
  have:∀ {us:List V} {ks:List Str},Bears K H7 PyData.str us ks->us=ks.map V.str:=fun {us}=>by
   induction us with
   | nil=>intro ks h; cases h; rfl
   | cons a r ih=>intro ks h; cases h with | cons h1 h2=>cases h1; rw [ih h2]; rfl
  exact this hb7
 subst eus
 clear hb7 hb6
 have hm:h=n\/Rch b n h:=wr h (by simp)
 have hF7:H7 Fo=some (.lst (fs.map V.str)):=by rw [oth Fo FW]; exact hF6
 have s07:SB [] H H7:=((s6.nil (ps:=[Wo])).trans s7).drop nWo
 have jl:js.length+1+5*misN b fs<=50:=by rw [List.length_append] at b2; exact b2
 refine z0d ⟨_,rfl,l,rfl,⟨_,SqL.of (s07.keep _ _ hl nmn)⟩,?_⟩
 -- the state within
 let In:L2.St->Hp->List Str->Prop:=fun σ H8 gs=>∃ (vs:List Str) (Go Vo:Addr) (o5 o6 o7 o8 o9 o10:Option V),σ=[some (.ref l),some (.str n),some (.ref Go),some (.ref Vo),some (.str h),o5,o6,o7,o8,o9,o10,none]/\SB [] H7 H8/\H Go=none/\H Vo=none/\Go ≠ Vo/\H8 Go=some (.lst (gs.map V.str))/\H8 Vo=some (.lst (vs.map V.str))/\gs.length+5*misN b gs<=50/\vs.length+5*misN b gs<=js.length+5*misN b fs/\(∀ x ∈ js,x ∈ vs)/\(∀ x ∈ vs,x ∈ js\/Rch b n x)/\(∀ x ∈ fs,x ∈ gs)/\(∀ x ∈ gs,x ∈ fs\/x ∈ vs)/\∀ x ∈ gs,Rch b n x
 have mono:∀ {gs more:List Str} {x:Str},x ∈ gs->x ∈ gs++more:=fun h=>mal _ h
 refine for_it (walk_list (xs:=xs)) (fun i σ H8=>∃ gs:List Str,In σ H8 gs/\∀ k ∈ b.take i,k.n=h->∀ y ∈ ledR k.rs,y ∈ gs)
  ⟨fs,⟨js,Fo,Wo,_,_,_,_,_,_,rfl,SB.refl,nFo,nWo,FW,hF7,hW7,b1,by omega,(fun _ h=>h),(fun _ h=>.inl h),(fun _ h=>h),(fun _ h=>.inl h),fr⟩,by simp⟩ (fun i σ H8 hi h8=>by obtain ⟨_,⟨_,_,_,_,_,_,_,_,_,_,s,_⟩,_⟩:=h8; exact (s07.trans s).sqL nmn (SqL.of hl)) (fun i x σ Hq H8 hi h8 y=>?_) (fun σ H8 h8=>?_)
 ·obtain ⟨gs,⟨vs,Go,Vo,o5,o6,o7,o8,o9,o10,rfl,s8,nGo,nVo,GV,hG8,hV8,c1,c2,jv,vj,fg,gf,gr⟩,hk8⟩:=h8
  obtain ⟨rfl,ey⟩:=y
  obtain ⟨k,ek,t,lk,zs,rfl,hT,hlk,hbk,_⟩:=ha.get ey
  have km:=List.mem_of_getElem? ek
  have s08:=s07.trans s8
  have hT8:=s08.sqT hT
  have hlk8:=s08.keep _ _ hlk nmn
  have etk:b.take (i+1)=b.take i++[k]:=by rw [List.take_add_one,ek]; rfl
  refine ⟨t,_,rfl,hT8,rfl,_,_,rfl,_,_,rfl,_,_,rfl,rfl,?_⟩
  refine ⟨_,rfl,_,rfl,rfl,_,rfl,?_⟩
  by_cases hkn:k.n=h
  ·rw [show decide (V.str k.n=V.str h)=true from decide_eq_true (by rw [hkn])]
   refine iteT ?_
   have eg:b.get h=some k:=by rw [<- hkn]; exact Bk.get_self ok.nd km
   obtain ⟨kno,krl,kru⟩:=ok.kd k km
   refine ⟨_,rfl,lk,rfl,⟨_,SqL.of hlk8⟩,?_⟩
   refine for_it (walk_list (xs:=zs)) (fun j σ H9=>∃ gs:List Str,In σ H9 gs/\(∀ k ∈ b.take i,k.n=h->∀ y ∈ ledR k.rs,y ∈ gs)/\∀ r ∈ k.rs.take j,∀ y ∈ (Ru.within r).map (·.1.1),y ∈ gs)
    ⟨gs,⟨vs,Go,Vo,_,_,_,_,_,_,rfl,s8,nGo,nVo,GV,hG8,hV8,c1,c2,jv,vj,fg,gf,gr⟩,hk8,by simp⟩ (fun j σ H9 hj h9=>by obtain ⟨_,⟨_,_,_,_,_,_,_,_,_,_,s,_⟩,_⟩:=h9; exact (s07.trans s).sqL nmn (SqL.of hlk)) (fun j x σ Hq H9 hj h9 y=>?_) (fun σ H9 h9=>?_)
   ·clear hG8 hV8 c1 c2 jv vj fg gf gr hk8 nGo nVo GV
    obtain ⟨gs,⟨vs,Go,Vo,o5,o6,o7,o8,o9,o10,rfl,s9,nGo,nVo,GV,hG9,hV9,c1,c2,jv,vj,fg,gf,gr⟩,hk9,hr9⟩:=h9
    obtain ⟨rfl,ez⟩:=y
    obtain ⟨r,er,hr⟩:=hbk.get ez
    have rm:=List.mem_of_getElem? er
    obtain ⟨⟨rk1,rk2,rp⟩,rin⟩:=kru r rm
    have s09:=s07.trans s9
    have d1:=r.1.deep_parts
    have d2:=r.2.deep_parts
    have wl1:=r.1.within_length
    have wl2:=r.2.within_length
    cases (hr:Dp K H x (.tuple [r.1.enc,r.2.enc])) with
    | @tup ad us' _ hs' hda =>
    cases hda with
    | cons g1 hda =>
    cases hda with
    | cons g2 hda =>
    cases hda
    rename_i u1 u2
    refine ⟨ad,_,rfl,s09.sqT hs',rfl,_,_,rfl,_,_,rfl,rfl,?_⟩
    refine ⟨_,rfl,u1,r.1,rfl,GA.sb g1 s09,by omega,by omega,fun S1 H10 s10 nS1 hS10=>?_⟩
    refine ⟨_,rfl,u2,r.2,rfl,GA.sb g2 (s09.trans s10),by omega,by omega,fun S2 H11 s11 nS2 hS11=>?_⟩
    have hS10':=s11.keep _ _ hS10 nmn
    refine ⟨S1,S2,_,_,rfl,rfl,hS10',hS11,by simp only [List.length_map]; omega,fun C nC=>?_⟩
    have eall:(r.1.within.map (·.1.1)).map V.str++(r.2.within.map (·.1.1)).map V.str=((Ru.within r).map (·.1.1)).map V.str:=by
     show _=((r.1.within++r.2.within).map (·.1.1)).map V.str
     rw [List.map_append,List.map_append]
    rw [eall]
    have t12:=SB.new (ps:=[]) nC (.lst (((Ru.within r).map (·.1.1)).map V.str))
    have hC12:upd H11 C (.lst (((Ru.within r).map (·.1.1)).map V.str)) C=some (.lst (((Ru.within r).map (·.1.1)).map V.str)):=upd_same
    have s912:=(s10.trans s11).trans t12
    have hG12:=s912.keep _ _ hG9 nmn
    have hV12:=s912.keep _ _ hV9 nmn
    generalize upd H11 C (.lst (((Ru.within r).map (·.1.1)).map V.str))=H12 at t12 hC12 s912 hG12 hV12
    have ral:((Ru.within r).map (·.1.1)).length<=4:=by
     show ((r.1.within++r.2.within).map (·.1.1)).length<=4
     rw [List.length_map,List.length_append]
     omega
    have rad:∀ y ∈ (Ru.within r).map (·.1.1),y ∈ adj b h:=fun y hy=>by
     rw [z33 eg]
     exact List.mem_flatMap.mpr ⟨r,rm,hy⟩
    generalize hal:(Ru.within r).map (·.1.1)=al at hC12 ral rad
    refine ⟨C,rfl,⟨_,SqL.of hC12⟩,fun D nD=>?_⟩
    refine z0f (walk_list (xs:=al.map V.str)) nD (by rw [List.length_map]; omega) (fun j us _=>us=((al.take j).filter fun y=>decide (y ∉ gs)).map V.str) rfl (fun G s=>s.sqL nmn (SqL.of hC12)) (fun _ _ _ _ _ h=>h) (fun Pv j' z Hq' G us hj' sG y hR hu fin skip=>?_) (fun us H13 s13 hD13 hR hu=>?_)
    ·obtain ⟨rfl,ez'⟩:=y
     rw [List.getElem?_map] at ez'
     obtain ⟨sx,ex,rfl⟩:=Option.map_eq_some_iff.mp ez'
     have hst:=z1r (fun y=>decide (y ∉ gs)) ex
     refine ⟨rfl,_,rfl,_,rfl,Go,_,rfl,.inl (SqL.of (sG.keep _ _ hG12 nmn)),rfl,z0r _,_,rfl,?_⟩
     rw [if_pos rfl,z11]
     by_cases h1:sx ∈ gs
     ·rw [decide_eq_true h1]
      refine iteF (skip _ SB.refl ?_)
      rw [hst,if_neg (fun z=>(of_decide_eq_true z:sx ∉ gs) h1),hR,List.append_nil]
     ·rw [decide_eq_false h1]
      refine iteT ⟨_,rfl,fin _ _ SB.refl ?_⟩
      rw [hst,if_pos (decide_eq_true h1),hR]
    ·subst hR
     rw [List.length_map,List.take_length] at hD13
     have memn:∀ x,x ∈ al.filter (fun y=>decide (y ∉ gs)) ↔ x ∈ al/\x ∉ gs:=fun x=>by rw [List.mem_filter,decide_eq_true_eq]
     have fl:=List.length_filter_le (fun y=>decide (y ∉ gs)) al
     generalize al.filter (fun y=>decide (y ∉ gs))=mo at hD13 memn fl
     have hG13:=s13.keep _ _ hG12 nmn
     have hV13:=s13.keep _ _ hV12 nmn
     have add:=zda (b:=b) (fs:=gs) (more:=mo) (fun x hx=>⟨z0k ok (rad x ((memn x).mp hx).1),((memn x).mp hx).2⟩) (by omega)
     refine z0d ⟨_,rfl,_,rfl,Go,D,_,_,rfl,rfl,hG13,hD13,by simp only [List.length_map]; omega,fun F2 nF2=>?_⟩
     have t14:=SB.new (ps:=[]) nF2 (.lst (gs.map V.str++mo.map V.str))
     have hF14:upd H13 F2 (.lst (gs.map V.str++mo.map V.str)) F2=some (.lst ((gs++mo).map V.str)):=by rw [upd_same,List.map_append]
     have hD14:=t14.keep _ _ hD13 nmn
     have hV14:=t14.keep _ _ hV13 nmn
     generalize upd H13 F2 (.lst (gs.map V.str++mo.map V.str))=H14 at t14 hF14 hD14 hV14
     refine z0d ⟨_,rfl,_,rfl,Vo,D,_,_,rfl,rfl,hV14,hD14,by simp only [List.length_map]; omega,fun V2 nV2=>?_⟩
     have t15:=SB.new (ps:=[]) nV2 (.lst (vs.map V.str++mo.map V.str))
     have hV15:upd H14 V2 (.lst (vs.map V.str++mo.map V.str)) V2=some (.lst ((vs++mo).map V.str)):=by rw [upd_same,List.map_append]
     have hF15:=t15.keep _ _ hF14 nmn
     have s913:=s912.trans s13
     have la:=List.length_append (as:=gs) (bs:=mo)
     have lb:=List.length_append (as:=vs) (bs:=mo)
     refine ⟨gs++mo,⟨vs++mo,F2,V2,_,_,_,_,_,_,rfl,s9.trans ((s913.trans t14).trans t15),(s09.trans s913).dom _ nF2,((s09.trans s913).trans t14).dom _ nV2,ne_of_none hF14 nV2,hF15,hV15,by omega,by omega,fun x hx=>mono (jv x hx),fun x hx=>?_,fun x hx=>mono (fg x hx),fun x hx=>?_,fun x hx=>?_⟩,fun k' hk' e y hy=>mono (hk9 k' hk' e y hy),fun r' hr' y hy=>?_⟩
     ·rcases List.mem_append.mp hx with hx | hx
      ·exact vj x hx
      ·have h2:=rad x ((memn x).mp hx).1
       rcases hm with e | rr
       ·rw [e] at h2; exact .inr (.one h2)
       ·exact .inr (.step rr h2)
     ·rcases List.mem_append.mp hx with hx | hx
      ·exact (gf x hx).imp_right mono
      ·exact .inr (mar _ hx)
     ·rcases List.mem_append.mp hx with hx | hx
      ·exact gr x hx
      ·have h2:=rad x ((memn x).mp hx).1
       rcases hm with e | rr
       ·rw [e] at h2; exact .one h2
       ·exact .step rr h2
     ·rw [List.take_add_one,er] at hr'
      rcases List.mem_append.mp hr' with hr' | hr'
      ·exact mono (hr9 r' hr' y hy)
      ·have e:r'=r:=by simpa using hr'
       rw [e,hal] at hy
       by_cases z:y ∈ gs
       ·exact mono z
       ·exact mar _ ((memn y).mpr ⟨hy,z⟩)
   ·obtain ⟨gs,hIn,hk9,hr9⟩:=h9
    have zl:=hbk.length
    rw [zl,List.take_length] at hr9
    refine ⟨gs,hIn,fun k' hk' e y hy=>?_⟩
    rw [etk] at hk'
    rcases List.mem_append.mp hk' with hk' | hk'
    ·exact hk9 k' hk' e y hy
    ·rw [List.mem_singleton.mp hk'] at hy
     obtain ⟨r,hr,hy⟩:=List.mem_flatMap.mp hy
     exact hr9 r hr y hy
  ·rw [show decide (V.str k.n=V.str h)=false from decide_eq_false (fun z=>hkn (by cases z; rfl))]
   refine iteF ⟨gs,⟨vs,Go,Vo,_,_,_,_,_,_,rfl,s8,nGo,nVo,GV,hG8,hV8,c1,c2,jv,vj,fg,gf,gr⟩,fun k' hk' e y hy=>?_⟩
   rw [etk] at hk'
   rcases List.mem_append.mp hk' with hk' | hk'
   ·exact hk8 k' hk' e y hy
   ·rw [List.mem_singleton.mp hk'] at e
    exact absurd e hkn
 ·obtain ⟨gs,⟨vs,Go,Vo,o5,o6,o7,o8,o9,o10,rfl,s8,nGo,nVo,GV,hG8,hV8,c1,c2,jv,vj,fg,gf,gr⟩,hk8⟩:=h8
  rw [xl,List.take_length] at hk8
  have la:=List.length_append (as:=js) (bs:=[h])
  have l1:[h].length=1:=rfl
  refine ⟨vs.length+5*misN b gs,by omega,gs,vs,Go,Vo,_,_,_,_,_,_,_,rfl,rfl,s07.trans s8,nGo,nVo,GV,hG8,hV8,c1,by omega,fun x hx=>(vj x hx).elim (fun h=>wr x (mal _ h)) .inr,gr,fun x hx=>?_⟩
  have hx':x ∈ vs\/(x=n\/x ∈ fs):=by
   rcases hx with hx | hx
   ·exact .inr (.inl hx)
   ·exact (gf x hx).elim (fun h=>.inr (.inr h)) .inl
  rcases hx' with hx | hx
  ·exact .inl hx
  ·rcases cl x hx with hx | hx
   ·rcases List.mem_append.mp hx with hx | hx
    ·exact .inl (jv x hx)
    ·refine .inr fun y hy=>?_
     rw [List.mem_singleton.mp hx] at hy
     unfold adj at hy
     cases eg:b.get h with
     | none=>rw [eg] at hy; cases hy
     | some k =>
      rw [eg] at hy
      obtain ⟨km,kn⟩:=Bk.get_some eg
      exact hk8 k km kn y hy
   ·exact .inr fun y hy=>fg y (hx y hy)
abbrev N_q9:List Str:=["_law_kinds_here","_law_rings","_law_found","_law_kind","_law_reached_here","_law_name"]
theorem sc_q9:FnScope N_q9 ["_law_kinds_here"] (defScope s_q9):=⟨rfl,rfl,rfl,by decide +kernel,rfl,by decide +kernel,by decide +kernel⟩
theorem zju (B:BI mg) (G_q16:Got P w K mg base "_law_reached" ["_law_kinds_here","_law_name"] (21) (z3q K)) (F:Fun K "_law_endless" "_law_endless" s_q9 f fd):FnOk P w K mg base CX0 (22) f fd ["_law_kinds_here"] (z7a K):=by
 refine F.ok sc_q9 (fun vs H Q E h=>?_) (fun cdv A outer s H vs Q E hr h=>?_)
 ·obtain ⟨l,xs,b,rfl,_⟩:=h
  rfl
 obtain ⟨l,xs,b,rfl,hl,ha,ok,q⟩:=h
 have hun2:=hunT hr
 refine ⟨_,pss_cons (ps_set (i:=1) sc_q9.nd rfl (.inr rfl) (pe_lc (own:=[("_law_kind",3)]) (g:=(gName 3)) (tt:=(tTest (tOp (rIn K false) (tOp (rIxT K) (tVar 3) (tC (.int 0))) (tCall (z3q K) [] E0 (tCons (tVar 0) (tCons (tOp (rIxT K) (tVar 3) (tC (.int 0))) tNil)))))) (te:=(tOp (rIxT K) (tVar 3) (tC (.int 0)))) rfl sc_q9.nd (pi_list (pv 0)) (blkOk_by (N:=N_q9) (sc:=defScope s_q9) (by decide +kernel)) (fun _ _ _ _ _=>(pg_name (i:=3) sc_q9.nd rfl (.inl rfl))) (fun _ _ _ _ _=>(pts_one (pt_cmpR op_in_seq (pe_ix ix_tup (pv 3) pe_int (fun _ _=>rfl)) (z00 G_q16 (hr.mono (by omega)) rfl (pa_cons (pv 0) (pa_cons (pe_ix ix_tup (pv 3) pe_int (fun _ _=>rfl)) pa_nil))) (by rfl)))) (fun _ _ _ _ _=>(pe_ix ix_tup (pv 3) pe_int (fun _ _=>rfl)))))
  (pss_cons (ps_set (i:=2) sc_q9.nd rfl (.inl rfl) (pe_lst pa_nil))
  (pss_cons (ps_for PassesOwn.never rfl (pi_list (pv 0)) (pg_name (i:=3) sc_q9.nd rfl (.inl rfl))
   (pss_cons (ps_set (i:=4) sc_q9.nd rfl (.inl rfl) (pe_op op_cat (pe_lst (pa_cons (pe_ix ix_tup (pv 3) pe_int (fun _ _=>rfl)) pa_nil)) (z00 G_q16 (hr.mono (by omega)) rfl (pa_cons (pv 0) (pa_cons (pe_ix ix_tup (pv 3) pe_int (fun _ _=>rfl)) pa_nil)))))
  (pss_one (ps_if (pt_cmpR (op_neD (by show A.units+3+64 < cLine; omega)) (pe_lc (own:=[("_law_name",5)]) (g:=(gName 5)) (tt:=(tTest (tOp (rIn K false) (tVar 5) (tVar 1)))) (te:=(tVar 5)) rfl sc_q9.nd (pi_list (pv 4)) (blkOk_by (N:=N_q9) (sc:=defScope s_q9) (by decide +kernel)) (fun _ _ _ _ _=>(pg_name (i:=5) sc_q9.nd rfl (.inl rfl))) (fun _ _ _ _ _=>(pts_one (pt_cmpR op_in_seq (pv 5) (pv 1) (by rfl)))) (fun _ _ _ _ _=>(pv 5))) (pe_lst pa_nil) (nomark _)) (pss_one (ps_expr (pe_bm PySem.F.plainAttrs_list PySem.F.slot_list_append PySem.F.type_list_append mt_append (pv 2) (pa_cons (pe_ix ix_tup (pv 3) pe_int (fun _ _=>rfl)) pa_nil)))) pss_nil))))
  (pss_one (ps_ret (pe_callB cr_sortedS rfl B.sorted (by decide +kernel) (pa_cons (pv 2) pa_nil)))))),?_⟩
 classical
 have szl:=sizeLine_eq
 have b8:=ok.len
 have xl:=ha.length
 have nml:b.names.length=b.length:=List.length_map ..
 refine ⟨_,rfl,l,rfl,⟨_,SqL.of hl⟩,fun R nR=>?_⟩
 refine z0f (walk_list (xs:=xs)) nR (by omega) (fun i us _=>us=((b.names.take i).filter fun n=>decide (Rch b n n)).map V.str) rfl (fun H3 s3=>s3.sqL nmn (SqL.of hl)) (fun _ _ _ _ _ h=>h) (fun Pv i x Hq H3 us hi s3 y hR hu fin skip=>?_) (fun us H3 s3 hR3 hR hu=>?_)
 ·obtain ⟨rfl,ey⟩:=y
  obtain ⟨k,ek,t,lk,zs,rfl,hT,hlk,hbk,_⟩:=ha.get ey
  have km:=List.mem_of_getElem? ek
  have kn:k.n ∈ b.names:=List.mem_map.mpr ⟨k,km,rfl⟩
  have en:b.names[i]?=some k.n:=by rw [List.getElem?_map,ek]; rfl
  have hst:=z1r (fun n=>decide (Rch b n n)) en
  refine ⟨rfl,_,rfl,t,_,_,_,rfl,rfl,s3.sqT hT,atI_nat (j:=0) rfl,_,rfl,_,rfl,t,_,_,_,rfl,rfl,s3.sqT hT,atI_nat (j:=0) rfl,l,xs,b,k.n,rfl,s3.keep _ _ hl nmn,ha.sb s3 NoLst.nil,ok,kn,fun L ss H4 s4 nL hL sl hm=>?_⟩
  refine ⟨L,_,rfl,.inl (SqL.of hL),rfl,z0r _,_,rfl,?_⟩
  rw [if_neg (by decide),z11]
  by_cases hr:Rch b k.n k.n
  ·rw [decide_eq_true ((hm _).mpr hr)]
   refine iteT ⟨_,rfl,t,_,_,_,rfl,rfl,(s3.trans s4).sqT hT,atI_nat (j:=0) rfl,fin _ _ s4 ?_⟩
   rw [hst,if_pos (decide_eq_true hr),hR]
  ·rw [decide_eq_false (fun z=>hr ((hm _).mp z))]
   refine iteF (skip _ s4 ?_)
   rw [hst,if_neg (fun z=>hr (of_decide_eq_true z)),hR,List.append_nil]
 subst hR
 rw [xl,<- nml,List.take_length] at hR3
 have rm:∀ r,r ∈ b.names.filter (fun n=>decide (Rch b n n)) ↔ Rch b r r:=fun r=>by
  rw [List.mem_filter,decide_eq_true_eq]; exact ⟨fun z=>z.2,fun z=>⟨z.mem ok,z⟩⟩
 have rl:(b.names.filter fun n=>decide (Rch b n n)).length<=8:=by
  have h1:=List.length_filter_le (fun n=>decide (Rch b n n)) b.names
  omega
 generalize b.names.filter (fun n=>decide (Rch b n n))=rs at hR3 rm rl
 refine z0d ⟨by show 0<=sizeLine; decide,fun F nF=>?_⟩
 have t4:=SB.new (ps:=[]) nF (.lst [])
 have hF4:upd H3 F (.lst []) F=some (.lst []):=upd_same
 have hR4:=t4.keep _ _ hR3 nmn
 have s04:=s3.trans t4
 have nFH:H F=none:=s3.dom _ nF
 have RF:R ≠ F:=ne_of_none hR3 nF
 generalize upd H3 F (.lst [])=H4 at t4 hF4 hR4 s04
 refine z0d ⟨_,rfl,l,rfl,⟨_,SqL.of (s04.keep _ _ hl nmn)⟩,?_⟩
 refine for_it (walk_list (xs:=xs)) (fun i σ H8=>SB [F] H4 H8/\∃ (o3 o4:Option V),σ=[some (.ref l),some (.ref R),some (.ref F),o3,o4,none]/\H8 F=some (.lst (((b.names.take i).filter fun n=>decide (¬ EndK b n)).map V.str)))
  ⟨SB.refl,_,_,rfl,hF4⟩ (fun i σ H8 hi h8=>((s04.nil (ps:=[F])).trans h8.1 |>.drop nFH).sqL nmn (SqL.of hl)) (fun i x σ Hq H8 hi h8 y=>?_) (fun σ H8 h8=>?_)
 ·obtain ⟨s8,o3,o4,rfl,hF8⟩:=h8
  obtain ⟨rfl,ey⟩:=y
  obtain ⟨k,ek,t,lk,zs,rfl,hT,hlk,hbk,_⟩:=ha.get ey
  have km:=List.mem_of_getElem? ek
  have kn:k.n ∈ b.names:=List.mem_map.mpr ⟨k,km,rfl⟩
  have en:b.names[i]?=some k.n:=by rw [List.getElem?_map,ek]; rfl
  have hst:=z1r (fun n=>decide (¬ EndK b n)) en
  have s08:SB [] H H8:=((s04.nil (ps:=[F])).trans s8).drop nFH
  refine ⟨_,rfl,t,_,_,_,rfl,rfl,s08.sqT hT,atI_nat (j:=0) rfl,by show 1<=sizeLine; decide,fun S1 nS1=>?_⟩
  have t9:=SB.new (ps:=[]) nS1 (.lst [.str k.n])
  have hS9:upd H8 S1 (.lst [.str k.n]) S1=some (.lst [.str k.n]):=upd_same
  generalize upd H8 S1 (.lst [.str k.n])=H9 at t9 hS9
  have s09:=s08.trans t9
  refine ⟨_,rfl,_,rfl,t,_,_,_,rfl,rfl,s09.sqT hT,atI_nat (j:=0) rfl,l,xs,b,k.n,rfl,s09.keep _ _ hl nmn,ha.sb s09 NoLst.nil,ok,kn,fun L ss H10 s10 nL hL sl hm=>?_⟩
  refine ⟨S1,L,_,_,rfl,rfl,s10.keep _ _ hS9 nmn,hL,by rw [List.length_map]; show 1+ss.length<=sizeLine; omega,fun C nC=>?_⟩
  have t11:=SB.new (ps:=[]) nC (.lst ([.str k.n]++ss.map V.str))
  have hC:upd H10 C (.lst ([.str k.n]++ss.map V.str)) C=some (.lst ((k.n::ss).map V.str)):=upd_same
  have s811:=(t9.trans s10).trans t11
  generalize upd H10 C (.lst ([.str k.n]++ss.map V.str))=H11 at t11 hC s811
  have hR11:=(s8.trans s811.nil).keep _ _ hR4 (by simpa using RF)
  have hF11:=s811.keep _ _ hF8 nmn
  refine z0d ⟨_,rfl,C,rfl,⟨_,SqL.of hC⟩,fun A nA=>?_⟩
  have al:∀ x ∈ k.n::ss,x ∈ b.names:=fun x hx=>by
   rcases List.mem_cons.mp hx with e | hx
   ·rw [e]; exact kn
   ·exact ((hm x).mp hx).mem ok
  refine z0f (walk_list (xs:=(k.n::ss).map V.str)) nA (by rw [List.length_map,List.length_cons]; omega) (fun j us _=>us=(((k.n::ss).take j).filter fun y=>decide (y ∈ rs)).map V.str) rfl (fun G s=>s.sqL nmn (SqL.of hC)) (fun _ _ _ _ _ h=>h) (fun Pv j z Hq' G us hj sG y hR hu fin skip=>?_) (fun us H12 s12 hA12 hR hu=>?_)
  ·obtain ⟨rfl,ez⟩:=y
   rw [List.getElem?_map] at ez
   obtain ⟨sx,ex,rfl⟩:=Option.map_eq_some_iff.mp ez
   have hst2:=z1r (fun y=>decide (y ∈ rs)) ex
   refine ⟨rfl,_,rfl,_,rfl,R,_,rfl,.inl (SqL.of (sG.keep _ _ hR11 nmn)),rfl,z0r _,_,rfl,?_⟩
   rw [if_neg (by decide),z11]
   by_cases h1:sx ∈ rs
   ·rw [decide_eq_true h1]
    refine iteT ⟨_,rfl,fin _ _ SB.refl ?_⟩
    rw [hst2,if_pos (decide_eq_true h1),hR]
   ·rw [decide_eq_false h1]
    refine iteF (skip _ SB.refl ?_)
    rw [hst2,if_neg (fun z=>h1 (of_decide_eq_true z)),hR,List.append_nil]
  subst hR
  rw [List.length_map,List.take_length] at hA12
  have memn:∀ x,x ∈ (k.n::ss).filter (fun y=>decide (y ∈ rs)) ↔ x ∈ k.n::ss/\x ∈ rs:=fun x=>by rw [List.mem_filter,decide_eq_true_eq]
  generalize (k.n::ss).filter (fun y=>decide (y ∈ rs))=fl at hA12 memn
  refine ⟨by show 0<=sizeLine; decide,fun Z nZ=>?_⟩
  have t13:=SB.new (ps:=[]) nZ (.lst [])
  have hZ13:upd H12 Z (.lst []) Z=some (.lst []):=upd_same
  have hA13:=t13.keep _ _ hA12 nmn
  have s813:=(s811.trans s12).trans t13
  generalize upd H12 Z (.lst [])=H13 at t13 hZ13 hA13 s813
  have hF13:=s813.keep _ _ hF8 nmn
  refine ⟨.list (fl.map .str),.list [],.lst (SqL.of hA13) (z5w K H13 fl),.lst (SqL.of hZ13) .nil,z2q fun x hx=>ok.names x (al x ((memn x).mp hx).1),by decide +kernel,_,rfl,?_⟩
  have fiff:fl=[] ↔ EndK b k.n:=by
   constructor
   ·intro e
    refine Classical.byContradiction fun z=>?_
    obtain ⟨r,r1,r2⟩:=(z66 ok kn).mp z
    have:r ∈ fl:=(memn r).mpr ⟨r2.elim (fun e=>by rw [e]; exact mcs ..) fun h=>mcm _ ((hm r).mpr h),(rm r).mpr r1⟩
    rw [e] at this; cases this
   ·intro e
    refine List.eq_nil_iff_forall_not_mem.mpr fun r hr=>?_
    obtain ⟨h1,h2⟩:=(memn r).mp hr
    refine (z66 ok kn).mpr ⟨r,(rm r).mp h2,?_⟩ e
    rcases List.mem_cons.mp h1 with e | h
    ·exact .inl e
    ·exact .inr ((hm r).mp h)
  by_cases hz:EndK b k.n
  ·rw [fiff.mpr hz]
   refine iteF ⟨s8.trans s813.nil,_,_,rfl,?_⟩
   rw [hF13,hst,if_neg (fun z=>(of_decide_eq_true z:¬ EndK b k.n) hz),List.append_nil]
  ·rw [show (!PyData.eqv (.list (fl.map .str)) (.list []))=true by
    cases h:fl with
    | nil=>exact absurd (fiff.mp h) hz
    | cons _ _=>simp [PyData.eqv,PyData.eqvAll]]
   refine iteT ?_
   have fl1:=List.length_filter_le (fun n=>decide (¬ EndK b n)) (b.names.take i)
   rw [List.length_take] at fl1
   refine ⟨_,rfl,.inl ⟨rfl,_,SqL.of hF13⟩,_,rfl,t,_,_,_,rfl,rfl,(s08.trans s813).sqT hT,atI_nat (j:=0) rfl,F,_,_,rfl,rfl,hF13,by rw [List.length_map]; omega,?_⟩
   refine ⟨(s8.trans s813.nil).trans (SB.set hF13 (by simp) _),_,_,rfl,?_⟩
   rw [upd_same,hst,if_pos (decide_eq_true hz)]
 ·obtain ⟨s8,o3,o4,rfl,hF8⟩:=h8
  rw [xl,<- nml,List.take_length] at hF8
  have s08:SB [] H H8:=((s04.nil (ps:=[F])).trans s8).drop nFH
  refine ⟨_,rfl,F,_,rfl,SqL.of hF8,?_,fun ys p pm srt np=>?_⟩
  ·have h1:=List.length_filter_le (fun n=>decide (¬ EndK b n)) b.names
   omega
  refine q p ys _ (s08.trans (SB.new (ps:=[]) np _)) (s08.dom _ np) upd_same srt (pm.nodup_iff.mpr (ok.nd.filter _)) fun n=>?_
  rw [pm.mem_iff,List.mem_filter,decide_eq_true_eq]
theorem zjw:FnScope ["self","kind"] ["self","kind"] (defScope s_q5):=⟨rfl,rfl,rfl,by decide +kernel,rfl,by decide +kernel,by decide +kernel⟩
theorem zjj {C:Addr} (F:Fun K "__init__" "NoKind.__init__" s_q5 f fd):FnOk P w K mg base CX0 1 f fd ["self","kind"] (z7i K C):=by
 refine F.ok zjw (fun vs H Q E h=>?_) (fun cdv A outer s H vs Q E hr h=>?_)
 ·obtain ⟨a,y,rfl,_⟩:=h
  rfl
 obtain ⟨a,y,rfl,T,no,ha,q⟩:=h
 refine ⟨_,pss_one (ps_ost (pv 0) (pv 1)),?_⟩
 exact ⟨_,rfl,_,rfl,a,C,rfl,T,no,.inl ⟨ha,q⟩⟩
theorem zji:FnScope ["self","kind"] ["self","kind"] (defScope s_q4):=⟨rfl,rfl,rfl,by decide +kernel,rfl,by decide +kernel,by decide +kernel⟩
theorem zjq {C:Addr} (F:Fun K "__init__" "Endless.__init__" s_q4 f fd):FnOk P w K mg base CX0 1 f fd ["self","kind"] (z7i K C):=by
 refine F.ok zji (fun vs H Q E h=>?_) (fun cdv A outer s H vs Q E hr h=>?_)
 ·obtain ⟨a,y,rfl,_⟩:=h
  rfl
 obtain ⟨a,y,rfl,T,no,ha,q⟩:=h
 refine ⟨_,pss_one (ps_ost (pv 0) (pv 1)),?_⟩
 exact ⟨_,rfl,_,rfl,a,C,rfl,T,no,.inl ⟨ha,q⟩⟩
abbrev N_q0:List Str:=["self","kinds","name","spreading","rows"]
theorem sc_q0:FnScope N_q0 ["self","kinds"] (defScope s_q0):=⟨rfl,rfl,rfl,by decide +kernel,rfl,by decide +kernel,by decide +kernel⟩
theorem zjb {C_NoBook C_Book:Addr} (B:BI mg) (O_NoBook:Own K mg "NoBook" C_NoBook) (T_Book:ClsF K C_Book ["spread_by_name","rows_by_name"]) (G_q24:Got P w K mg base "are_kinds" ["things"] (87) (z3g K)) (F:Fun K "__init__" "Book.__init__" s_q0 f fd):FnOk P w K mg base (L2.CX P w) (88) f fd ["self","kinds"] (z2z K C_Book C_NoBook):=by
 refine F.okX sc_q0 (fun vs H Q E h=>?_) (fun cdv A outer s H vs Q E hr h=>?_)
 ·obtain ⟨x,dx,l,xs,ts,rfl,_⟩:=h
  rfl
 obtain ⟨x,dx,l,xs,ts,rfl,hx,hdx,hs,ha,hf,hl,q,qE⟩:=h
 have hun2:=hunT hr
 refine ⟨_,pss_cons (ps_if (pt_not (pt_val (z00 G_q24 (hr.mono (by omega)) rfl (pa_cons (pv 1) pa_nil)))) (pss_one (ps_raise rfl (takes_of rfl rfl rfl rfl) (pmk_own PySem.F.excBase_ValueError O_NoBook.q O_NoBook.gC O_NoBook.k (raises_own O_NoBook.s O_NoBook.t) rfl))) pss_nil)
  (pss_cons (ps_fld (pv 0) (pe_dc (own:=[("name",2),("spreading",3),("rows",4)]) (g:=(gTup K 3 (gCons (gName 2) (gCons (gName 3) (gCons (gName 4) gNil))))) (tt:=tYes) (tk:=(tVar 2)) (tv:=(tVar 3)) rfl sc_q0.nd (pi_list (pv 1)) (blkOk_by (N:=N_q0) (sc:=defScope s_q0) (by decide +kernel)) (fun _ _ _ _ _=>(pg_tup rfl (pgs_cons (pg_name (i:=2) sc_q0.nd rfl (.inl rfl)) (pgs_cons (pg_name (i:=3) sc_q0.nd rfl (.inl rfl)) (pgs_cons (pg_name (i:=4) sc_q0.nd rfl (.inl rfl)) pgs_nil))))) (fun _ _ _ _ _=>pts_nil) (fun _ _ _ _ _=>(pv 2)) (fun _ _ _ _ _=>(pv 3))) rfl)
  (pss_one (ps_fld (pv 0) (pe_dc (own:=[("name",2),("spreading",3),("rows",4)]) (g:=(gTup K 3 (gCons (gName 2) (gCons (gName 3) (gCons (gName 4) gNil))))) (tt:=tYes) (tk:=(tVar 2)) (tv:=(tCB (fun xs H Q=>∃ p ys,xs=[.ref p]/\((SqL K H p ys/\∀ l,H l=none->Q (.ref l) (upd H l (.tup ys)))\/(SqT K H p ys/\Q (.ref p) H))) (tCons (tVar 4) tNil))) rfl sc_q0.nd (pi_list (pv 1)) (blkOk_by (N:=N_q0) (sc:=defScope s_q0) (by decide +kernel)) (fun _ _ _ _ _=>(pg_tup rfl (pgs_cons (pg_name (i:=2) sc_q0.nd rfl (.inl rfl)) (pgs_cons (pg_name (i:=3) sc_q0.nd rfl (.inl rfl)) (pgs_cons (pg_name (i:=4) sc_q0.nd rfl (.inl rfl)) pgs_nil))))) (fun _ _ _ _ _=>pts_nil) (fun _ _ _ _ _=>(pv 2)) (fun _ _ _ _ _=>(pe_callTy call_tuple_of rfl B.tuple boot_tuple (pa_cons (pv 4) pa_nil)))) rfl))),?_⟩
 refine ⟨_,rfl,l,xs,ts,rfl,SqL.of hs,ha,hf,hl,fun b H1 s1 hb=>?_⟩
 refine ⟨_,rfl,?_⟩
 cases b with
 | false=>exact iteT (qE (fun z=>nomatch (hb.mpr z)) H1 s1)
 | true =>
 refine iteF ?_
 obtain ⟨bk,et,ok⟩:=hb.mp rfl
 subst et
 have q2:=q bk rfl ok
 have ha1:=(ha.sb s1).kd
 have hs1:=s1.keep _ _ hs nmn
 have hx1:=s1.keep _ _ hx nmn
 have xlen:=ha1.length
 have szl:=sizeLine_eq
 have b8:=ok.len
 have hlx:l ≠ x:=ne_of hs hx (fun z=>nomatch z)
 refine ⟨_,rfl,l,rfl,⟨_,SqL.of hs1⟩,fun D hD=>?_⟩
 refine zaw (walk_list (xs:=xs)) hD (by omega) (fun i kvs _=>kvs=Bk.spKV (bk.take i)) rfl (fun H2 s2=>s2.sqL nmn (SqL.of hs1)) (fun _ _ _ _ _ h=>h) (fun Pv i y H2 H' kvs hi s2 yy hR hl2 fin _=>?_) (fun kvs H2 s2 hD2 hR _=>?_)
 ·obtain ⟨rfl,ey⟩:=yy
  obtain ⟨k,ek,t,r,zs,rfl,h1,h2,h3,_⟩:=ha1.get ey
  refine ⟨t,_,rfl,s2.sqT h1,rfl,_,_,rfl,_,_,rfl,_,_,rfl,rfl,rfl,?_⟩
  refine ⟨_,rfl,_,rfl,fin (Sum.inr k.n) _ _ SB.refl ?_⟩
  rw [hR,z1i,List.take_add_one,ek,Option.toList_some,Bk.spKV,Bk.spKV,List.map_append]
  ·rfl
  ·intro p hp e
   obtain ⟨j,hj,rfl⟩:=List.mem_map.mp hp
   injection e with e
   exact Bk.nodup_at ok.nd ek j hj e
 ·rw [xlen,List.take_length] at hR
  subst hR
  have hx2:=s2.keep _ _ hx1 nmn
  have hl2:=s2.keep _ _ hs1 nmn
  have ha2:=ha1.sb s2 NoLst.nil
  refine ⟨_,rfl,x,_,dx,_,rfl,hx2,T_Book.c,T_Book.no _ (by simp),by decide,?_⟩
  have e1:putF (Str.ofString "spread_by_name") (V.ref D) []=[(Str.ofString "spread_by_name",V.ref D)]:=rfl
  rw [e1]
  have t3:SB [x] H2 (upd H2 x (.ins C_Book dx [(Str.ofString "spread_by_name",V.ref D)])):=SB.setG hx2 (by simp) (fun _ z=>nomatch z) (fun _ _ z=>nomatch z) _
  have nl3:NoLst H2 [] [x]:=fun p hp=>.inr fun xs z=>by rw [List.mem_singleton.mp hp,hx2] at z; cases z
  have ha3:=ha2.sb t3 nl3
  have hl3:=t3.keep _ _ hl2 (by simpa using hlx)
  have hx3:upd H2 x (.ins C_Book dx [(Str.ofString "spread_by_name",V.ref D)]) x=some (.ins C_Book dx [(Str.ofString "spread_by_name",V.ref D)]):=upd_same
  have hD3:=t3.keep _ _ hD2 (by simpa using ne_of hD2 hx2 (fun z=>nomatch z))
  have s03:=((s1.trans s2).nil (ps:=[x])).trans t3
  generalize upd H2 x (.ins C_Book dx [(Str.ofString "spread_by_name",V.ref D)])=H3 at t3 ha3 hl3 hx3 hD3 s03
  refine ⟨_,rfl,l,rfl,⟨_,SqL.of hl3⟩,fun D2 hn2=>?_⟩
  refine zaw (walk_list (xs:=xs)) hn2 (by omega) (fun i kvs H4=>∃ us,kvs=Bk.rowKV (bk.take i) us/\Bears K H4 Kd.rowE us (bk.take i)) ⟨[],rfl,.nil⟩ (fun H4 s4=>s4.sqL nmn (SqL.of hl3)) (fun i us H4 H5 s5 ⟨us',e,hb⟩=>⟨us',e,hb.sb s5 Kd.noList_rowE⟩) (fun Pv i y H4 H' kvs hi s4 yy hR hl4 fin _=>?_) (fun kvs H4 s4 hD4 hR _=>?_)
  ·obtain ⟨rfl,ey⟩:=yy
   obtain ⟨us,rfl,hb⟩:=hR
   obtain ⟨k,ek,t,r,zs,rfl,h1,h2,h3,_⟩:=ha3.get ey
   refine ⟨t,_,rfl,s4.sqT h1,rfl,_,_,rfl,_,_,rfl,_,_,rfl,rfl,rfl,?_⟩
   refine ⟨_,rfl,_,rfl,r,zs,rfl,.inl ⟨SqL.of (s4.keep _ _ h2 nmn),fun p hp=>?_⟩⟩
   have t5:=SB.new (ps:=[]) hp (.tup zs)
   refine fin (Sum.inr k.n) _ _ t5 ⟨us++[.ref p],?_,?_⟩
   ·rw [z1i,List.take_add_one,ek,Option.toList_some,Bk.rowKV,Bk.rowKV,List.zipWith_append hb.length.symm]
    ·rfl
    ·intro p hp e
     obtain ⟨j,hj,e2⟩:=z7w hp
     rw [e2] at e
     injection e with e
     exact Bk.nodup_at ok.nd ek j hj e
   ·rw [List.take_add_one,ek,Option.toList_some]
    exact Bears.append (hb.sb t5 Kd.noList_rowE) (.cons (.tup (.inl (.inl upd_same)) (Bears.dp ((h3.sb s4 Ru.noList_enc).sb t5 Ru.noList_enc))) .nil)
  ·rw [xlen,List.take_length] at hR
   obtain ⟨us,rfl,hb⟩:=hR
   have hx4:=s4.keep _ _ hx3 nmn
   refine ⟨_,rfl,x,_,dx,_,rfl,hx4,T_Book.c,T_Book.no _ (by simp),by simp,?_⟩
   have t5:SB [x] H4 (upd H4 x (.ins C_Book dx (bkF D D2))):=SB.setG hx4 (by simp) (fun _ z=>nomatch z) (fun _ _ z=>nomatch z) _
   refine q2 _ ((s03.trans s4.nil).trans t5) ⟨x,dx,D,D2,us,rfl,upd_same,?_,?_,hb.sb t5 Kd.noList_rowE⟩
   ·exact t5.keep _ _ (s4.keep _ _ hD3 nmn) (by simpa using ne_of (s4.keep _ _ hD3 nmn) hx4 (fun z=>nomatch z))
   ·exact t5.keep _ _ hD4 (by simpa using ne_of hD4 hx4 (fun z=>nomatch z))
abbrev N_q1:List Str:=["self"]
theorem zjv:FnScope N_q1 ["self"] (defScope s_q1):=⟨rfl,rfl,rfl,by decide +kernel,rfl,by decide +kernel,by decide +kernel⟩
theorem zjo {C_Book:Addr} (B:BI mg) (T_Book:ClsF K C_Book ["spread_by_name","rows_by_name"]) (F:Fun K "names" "Book.names" s_q1 f fd):FnOk P w K mg base CX0 (1) f fd ["self"] (z1k K C_Book):=by
 refine F.ok zjv (fun vs H Q E h=>?_) (fun cdv A outer s H vs Q E hr h=>?_)
 ·obtain ⟨v,b,rfl,_⟩:=h
  rfl
 obtain ⟨v,b,rfl,hb,hl,q⟩:=h
 have hun2:=hunT hr
 refine ⟨_,pss_one (ps_ret (pe_callTy (call_listD rfl) rfl B.list boot_list (pa_cons (pe_fld (pv 0) rfl) pa_nil))),?_⟩
 obtain ⟨a,dx,d1,d2,us,rfl,h1,h2,h3,h4⟩:=hb
 refine ⟨_,rfl,a,_,dx,_,_,rfl,h1,T_Book.c,T_Book.no _ (by simp),rfl,d1,_,rfl,.inl h2,fun p hp=>?_⟩
 exact q p _ (SB.new hp _) hp (by rw [upd_same,Bk.spKV,List.map_map,List.map_map]; rfl)
abbrev N_q3:List Str:=["self","name"]
theorem zjc:FnScope N_q3 ["self","name"] (defScope s_q3):=⟨rfl,rfl,rfl,by decide +kernel,rfl,by decide +kernel,by decide +kernel⟩
theorem zj3 {C_Book C_NoKind:Addr} (B:BI mg) (T_Book:ClsF K C_Book ["spread_by_name","rows_by_name"]) (G_q27:GotX P w K mg base "check_kind" ["book","name"] (3) (z28 K C_Book C_NoKind)) (F:Fun K "spreads" "Book.spreads" s_q3 f fd):FnOk P w K mg base (L2.CX P w) (4) f fd ["self","name"] (z44 K C_Book C_NoKind):=by
 refine F.okX zjc (fun vs H Q E h=>?_) (fun cdv A outer s H vs Q E hr h=>?_)
 ·obtain ⟨v,b,n,rfl,_⟩:=h
  rfl
 obtain ⟨v,b,n,rfl,hb,hl,qk,qE⟩:=h
 have hun2:=hunT hr
 refine ⟨_,pss_cons (ps_expr (z34 G_q27 (hr.mono (by omega)) rfl (takes_of rfl rfl rfl rfl) (pa_cons (pv 0) (pa_cons (pv 1) pa_nil))))
  (pss_one (ps_ret (pe_dget (by show A.units+3+1 < cLine; omega) (pe_fld (pv 0) rfl) (pv 1) (fun _ _=>rfl)))),?_⟩
 refine ⟨_,rfl,_,rfl,_,b,n,rfl,hb,hl,fun k e H1 s1=>?_,qE⟩
 obtain ⟨a,dx,d1,d2,us,rfl,h1,h2,h3,h4⟩:=hb.sb0 s1
 refine ⟨_,rfl,a,_,dx,_,_,rfl,h1,T_Book.c,T_Book.no _ (by simp),rfl,_,rfl,d1,V.bl k.w,rfl,getK h2 (by rw [Bk.spKV_val,e]; rfl),qk k e H1 s1⟩
abbrev N_q2:List Str:=["self","name"]
theorem zjg:FnScope N_q2 ["self","name"] (defScope s_q2):=⟨rfl,rfl,rfl,by decide +kernel,rfl,by decide +kernel,by decide +kernel⟩
theorem zj2 {C_Book C_NoKind:Addr} (B:BI mg) (T_Book:ClsF K C_Book ["spread_by_name","rows_by_name"]) (G_q27:GotX P w K mg base "check_kind" ["book","name"] (3) (z28 K C_Book C_NoKind)) (F:Fun K "rules" "Book.rules" s_q2 f fd):FnOk P w K mg base (L2.CX P w) (4) f fd ["self","name"] (z3p K C_Book C_NoKind):=by
 refine F.okX zjg (fun vs H Q E h=>?_) (fun cdv A outer s H vs Q E hr h=>?_)
 ·obtain ⟨v,b,n,rfl,_⟩:=h
  rfl
 obtain ⟨v,b,n,rfl,hb,hl,hr4,qk,qE⟩:=h
 have hun2:=hunT hr
 refine ⟨_,pss_cons (ps_expr (z34 G_q27 (hr.mono (by omega)) rfl (takes_of rfl rfl rfl rfl) (pa_cons (pv 0) (pa_cons (pv 1) pa_nil))))
  (pss_one (ps_ret (pe_callTy call_list_of rfl B.list boot_list (pa_cons (pe_dget (by show A.units+3+1 < cLine; omega) (pe_fld (pv 0) rfl) (pv 1) (fun _ _=>rfl)) pa_nil)))),?_⟩
 refine ⟨_,rfl,_,rfl,_,b,n,rfl,hb,hl,fun k e H1 s1=>?_,qE⟩
 obtain ⟨a,dx,d1,d2,us,rfl,h1,h2,h3,h4⟩:=hb.sb0 s1
 obtain ⟨u,hv,hu⟩:=Bk.rowKV_val n h4 e
 refine ⟨_,rfl,a,_,dx,_,_,rfl,h1,T_Book.c,T_Book.no _ (by simp),rfl,_,rfl,d2,u,rfl,getK h3 hv,?_⟩
 cases hu with
 | tup ht hd=>exact ⟨_,_,rfl,.inr ht,fun l hl=>qk k e l _ _ (s1.trans (SB.new hl _)) (s1.dom l hl) upd_same ((Bears.of hd).sb (SB.new (ps:=[]) hl _) Ru.noList_enc)⟩
abbrev zjk:List Str:=["_law_ladder","_law_found","_law_exponent","_law_many"]
theorem sc_q19:FnScope zjk ["_law_ladder"] (defScope z5v):=⟨rfl,rfl,rfl,by decide +kernel,rfl,by decide +kernel,by decide +kernel⟩
theorem zhe (B:BI mg) (F:Fun K "_law_word" "_law_word" z5v f fd):FnOk P w K mg base CX0 (1) f fd ["_law_ladder"] (z45 K):=by
 refine F.ok sc_q19 (fun vs H Q E h=>?_) (fun cdv A outer s H vs Q E hr h=>?_)
 ·obtain ⟨v,l,B0,rfl,_⟩:=h
  rfl
 obtain ⟨v,l,B0,rfl,hv,ho,hd,hp,q⟩:=h
 have hun2:=hunT hr
 refine ⟨_,pss_cons (ps_set (i:=1) sc_q19.nd rfl (.inl rfl) pe_str)
  (pss_cons (ps_for PassesOwn.never rfl (pi_tup (pv 0)) (pg_tup rfl (pgs_cons (pg_name (i:=2) sc_q19.nd rfl (.inl rfl)) (pgs_cons (pg_name (i:=3) sc_q19.nd rfl (.inl rfl)) pgs_nil)))
   (pss_cons (ps_if (PW.pt (pw_and (pt_cmpR (op_neD (by show A.units+3+64 < cLine; omega)) (pv 2) (pe_tup pa_nil) (nomark _)) (pw_and1 (PW.pt (pw_or (pt_cmpR op_gt (pe_callB call_len_seq rfl B.len PySem.boot_len (pa_cons (pv 2) pa_nil)) pe_int (nomark _)) (pw_or1 (pt_cmpR (op_neD (by show A.units+3+64 < cLine; omega)) (pe_ix ix_tup (pe_ix ix_tup (pv 2) pe_int (fun _ _=>rfl)) pe_int (fun _ _=>rfl)) (pe_tup pa_nil) (nomark _)))))))) (pss_one (ps_ret pe_str)) pss_nil)
  (pss_cons (ps_if (PW.pt (pw_and (pt_cmpR (op_neD (by show A.units+3+64 < cLine; omega)) (pv 2) (pe_tup pa_nil) (nomark _)) (pw_and1 (pt_cmpR op_gt (pe_ix ix_tup (pe_ix ix_tup (pv 2) pe_int (fun _ _=>rfl)) pe_int (fun _ _=>rfl)) pe_int (nomark _))))) (pss_one (ps_set (i:=1) sc_q19.nd rfl (.inl rfl) pe_str)) pss_nil)
  (pss_one (ps_if (PW.pt (pw_and (pt_cmpR (op_neD (by show A.units+3+64 < cLine; omega)) (pv 2) (pe_tup pa_nil) (nomark _)) (pw_and1 (pt_cmpR op_eq (pv 1) pe_str (nomark _))))) (pss_one (ps_set (i:=1) sc_q19.nd rfl (.inl rfl) pe_str)) pss_nil)))))
  (pss_one (ps_ret (pv 1)))),?_⟩
 obtain ⟨a,xs,rfl,hs,hb⟩:=z0n hv
 have bl:=hb.length
 have h0:=(Lad.ok_iff.mp ho).1
 refine ⟨_,rfl,a,rfl,⟨xs,hs⟩,?_⟩
 refine for_it (walk_tup (xs:=xs)) (fun i σ H2=>SB [] H H2/\∃ o2 o3,σ=[some (.ref a),some (.str (z17 (l.ps.take i))),o2,o3]/\((l.ps.take i).all fun p=>p.1.isN)=true) ⟨SB.refl,none,none,rfl,rfl⟩ (fun i σ H2 hi h2=>h2.1.sqT hs) (fun i x σ H2 H' hi h2 y=>?_) (fun σ H2 h2=>?_)
 ·obtain ⟨s2,o2,o3,rfl,hall⟩:=h2
  obtain ⟨rfl,ex⟩:=y
  obtain ⟨p,ep,hpd⟩:=hb.get ex
  have pm:=List.mem_of_getElem? ep
  obtain ⟨ad,ux,rfl,hs2,hla⟩:=z10 hpd
  have pd:=l.mem_deep p pm
  have hpo:=(h0 p pm).1
  have hsplit:l.ps.take (i+1)=l.ps.take i++[p]:=by rw [List.take_add_one,ep]; rfl
  have step:∀ (z:Str) (H4:Hp),SB [] H H4->p.1.isN=true->z17 (l.ps.take i++[p])=z->SB [] H H4/\∃ o2 o3,[some (V.ref a),some (.str z),some ux,some (.int p.2)]=[some (V.ref a),some (.str (z17 (l.ps.take (i+1)))),o2,o3]/\((l.ps.take (i+1)).all fun p=>p.1.isN)=true:=by
   intro z H4 s4 hN hz
   refine ⟨s4,_,_,by rw [hsplit,hz],?_⟩
   rw [hsplit,List.all_append,hall]; simp [hN]
  refine ⟨ad,_,rfl,s2.sqT hs2,rfl,_,_,rfl,_,_,rfl,rfl,?_⟩
  refine ⟨_,rfl,(by show 0<=sizeLine; decide),fun e0 he0=>?_⟩
  have t3:=SB.new (ps:=[]) he0 (.tup [])
  refine ⟨p.1.enc,Lad.enc .nil,(hla.sb s2).sb t3,z18 (SqT.of upd_same),Lad.shaped_enc (by omega),Lad.shaped_enc (by decide),_,rfl,?_⟩
  rw [Lad.eqv_enc]
  have s3:=s2.trans t3
  have hla3:=hla.sb s3
  generalize hH3:upd H' e0 (.tup [])=H3 at t3 s3 hla3
  by_cases hnil:p.1=.nil
  ·rw [decide_eq_true hnil]
   refine iteF (iteF ?_)
   refine ⟨_,rfl,(by show 0<=sizeLine; decide),fun e1 he1=>?_⟩
   have t4:=SB.new (ps:=[]) he1 (.tup [])
   refine ⟨p.1.enc,Lad.enc .nil,hla3.sb t4,z18 (SqT.of upd_same),Lad.shaped_enc (by omega),Lad.shaped_enc (by decide),_,rfl,?_⟩
   rw [Lad.eqv_enc,decide_eq_true hnil]
   refine iteF (iteF ?_)
   refine ⟨_,rfl,(by show 0<=sizeLine; decide),fun e2 he2=>?_⟩
   have t5:=SB.new (ps:=[]) he2 (.tup [])
   refine ⟨p.1.enc,Lad.enc .nil,(hla3.sb t4).sb t5,z18 (SqT.of upd_same),Lad.shaped_enc (by omega),Lad.shaped_enc (by decide),_,rfl,?_⟩
   rw [Lad.eqv_enc,decide_eq_true hnil]
   refine iteF (iteF ?_)
   have hN:p.1.isN=true:=by rw [hnil]; rfl
   refine step _ _ ((s3.trans t4).trans t5) hN ?_
   rw [z4j _ _ hall hN,hnil,Lad.over1_nil]
   simp
  ·rw [decide_eq_false hnil]
   refine iteT ?_
   obtain ⟨c,zs,rfl,hsc,hbc⟩:=z0n hla3
   have zl:=hbc.length
   -- len(exponent) > 1
   have fin:p.1.isN=false->∀ H4,SB [] H3 H4->Q (.str "tower") H4:=fun hN H4 s4=>by
    have:=q H4 (s3.trans s4)
    rw [<- z84 ho] at this
    unfold z17 at this
    have e:(l.ps.all fun p=>p.1.isN)=false:=by
     cases e:(l.ps.all fun p=>p.1.isN) with
     | false=>rfl
     | true=>have:=List.all_eq_true.mp e p pm; rw [hN] at this; cases this
    rw [if_pos e] at this
    exact this
   refine ⟨_,rfl,c,zs,rfl,.inr hsc,_,_,rfl,rfl,_,rfl,?_⟩
   cases hx:p.1 with
   | nil=>exact absurd hx hnil
   | cons e m r =>
   rw [hx] at hbc hpo zl fin
   by_cases hl1:1 < zs.length
   ·rw [show decide ((1:Int) < (zs.length:Nat))=true from decide_eq_true (by omega)]
    refine iteT (iteT (fin ?_ _ SB.refl))
    cases hN:(Lad.cons e m r).isN with
    | false=>rfl
    | true =>
     rcases Lad.isN_ok hpo hN with h | ⟨m2,_,h⟩
     ·cases h
     ·rw [h] at zl
      have:zs.length=1:=zl
      omega
   ·rw [show decide ((1:Int) < (zs.length:Nat))=false from decide_eq_false (by omega)]
    refine iteF ?_
    have hr0:r=.nil:=by
     cases r with
     | nil=>rfl
     | cons e2 m2 r2 =>
      have:zs.length=r2.ps.length+1+1:=zl
      omega
    subst hr0
    rw [show (Lad.cons e m .nil).ps=[(e,m)] from rfl] at hbc
    cases hbc with
    | @cons y0 yr _ _ h0' hbr =>
    cases hbr
    obtain ⟨c1,u1,rfl,hsc1,hle⟩:=z10 h0'
    refine ⟨_,rfl,c,_,_,_,rfl,rfl,hsc,atI_nat (j:=0) rfl,c1,_,_,_,rfl,rfl,hsc1,atI_nat (j:=0) rfl,(by show 0<=sizeLine; decide),fun e1 he1=>?_⟩
    have t4:=SB.new (ps:=[]) he1 (.tup [])
    have ed:e.deep < p.1.deep:=by rw [hx]; exact Lad.mem_deep (.cons e m .nil) (e,m) (mcs ..)
    refine ⟨e.enc,Lad.enc .nil,hle.sb t4,z18 (SqT.of upd_same),Lad.shaped_enc (by omega),Lad.shaped_enc (by decide),_,rfl,?_⟩
    rw [Lad.eqv_enc]
    by_cases he:e=.nil
    ·subst he
     rw [decide_eq_true rfl]
     refine iteF ?_
     have hN:p.1.isN=true:=by rw [hx]; rfl
     have s4:=s3.trans t4
     have hsc4:=t4.sqT hsc
     have hsc14:=t4.sqT hsc1
     have hla4:LA K (upd H3 e1 (.tup [])) (.ref c) (.cons .nil m .nil):=by have:=hla3.sb t4; rw [hx] at this; exact this
     generalize hH4:upd H3 e1 (.tup [])=H4 at t4 s4 hsc4 hsc14 hla4
     refine ⟨_,rfl,(by show 0<=sizeLine; decide),fun e2 he2=>?_⟩
     have t5:=SB.new (ps:=[]) he2 (.tup [])
     refine ⟨Lad.enc (.cons .nil m .nil),Lad.enc .nil,hla4.sb t5,z18 (SqT.of upd_same),Lad.shaped_enc (by simp [Lad.deep]),Lad.shaped_enc (by decide),_,rfl,?_⟩
     rw [Lad.eqv_enc,decide_eq_false (fun z=>nomatch z)]
     refine iteT ?_
     refine ⟨_,rfl,c,_,_,_,rfl,rfl,t5.sqT hsc4,atI_nat (j:=0) rfl,c1,_,_,_,rfl,rfl,t5.sqT hsc14,atI_nat (j:=1) rfl,_,_,rfl,rfl,_,rfl,?_⟩
     have ho1:p.1.over1=decide (1 < m):=by rw [hx]; exact Lad.over1_num m
     have hla5:=hla4.sb t5
     have s5:=s4.trans t5
     generalize hH5:upd H4 e2 (.tup [])=H5 at t5 s5 hla5
     by_cases hm:1 < m
     ·rw [show decide ((1:Int) < m)=true from decide_eq_true hm]
      refine iteT ?_
      refine ⟨_,rfl,(by show 0<=sizeLine; decide),fun e3 he3=>?_⟩
      have t6:=SB.new (ps:=[]) he3 (.tup [])
      refine ⟨Lad.enc (.cons .nil m .nil),Lad.enc .nil,hla5.sb t6,z18 (SqT.of upd_same),Lad.shaped_enc (by simp [Lad.deep]),Lad.shaped_enc (by decide),_,rfl,?_⟩
      rw [Lad.eqv_enc,decide_eq_false (fun z=>nomatch z)]
      refine iteT ⟨_,rfl,rfl,_,rfl,?_⟩
      rw [show decide (V.str "power"=V.str "number")=false by decide +kernel]
      refine iteF ?_
      refine step _ _ (s5.trans t6) hN ?_
      rw [z4j _ _ hall hN,ho1,decide_eq_true hm]
      simp
     ·rw [show decide ((1:Int) < m)=false from decide_eq_false hm]
      refine iteF ?_
      refine ⟨_,rfl,(by show 0<=sizeLine; decide),fun e3 he3=>?_⟩
      have t6:=SB.new (ps:=[]) he3 (.tup [])
      refine ⟨Lad.enc (.cons .nil m .nil),Lad.enc .nil,hla5.sb t6,z18 (SqT.of upd_same),Lad.shaped_enc (by simp [Lad.deep]),Lad.shaped_enc (by decide),_,rfl,?_⟩
      rw [Lad.eqv_enc,decide_eq_false (fun z=>nomatch z)]
      refine iteT ⟨_,rfl,rfl,_,rfl,?_⟩
      have hw:=z4j _ _ hall hN
      rw [ho1,decide_eq_false hm,if_neg (by simp)] at hw
      have hne:p.1 ≠ .nil:=by rw [hx]; exact fun z=>nomatch z
      by_cases hwn:z17 (l.ps.take i)="number"
      ·rw [show decide (V.str (z17 (l.ps.take i))=V.str "number")=true from decide_eq_true (by rw [hwn])]
       refine iteT ?_
       exact step _ _ (s5.trans t6) hN (by rw [hw,if_pos ⟨hwn,hne⟩])
      ·rw [show decide (V.str (z17 (l.ps.take i))=V.str "number")=false from decide_eq_false (fun z=>hwn (by injection z))]
       refine iteF ?_
       exact step _ _ (s5.trans t6) hN (by rw [hw,if_neg (fun h=>hwn h.1)])
    ·rw [decide_eq_false he]
     refine iteT (fin ?_ _ t4)
     cases hN:(Lad.cons e m .nil).isN with
     | false=>rfl
     | true =>
      rcases Lad.isN_ok hpo hN with h | ⟨m2,_,h⟩
      ·cases h
      ·injection h with h; exact absurd h he
 ·obtain ⟨s2,o2,o3,rfl,hall⟩:=h2
  rw [bl,List.take_length] at hall
  have:=q H2 s2
  rw [<- z84 ho] at this
  refine ⟨_,rfl,?_⟩
  rw [bl,List.take_length]
  exact this
abbrev z8a:List Str:=["book","endless","ladders","rows","greatest","name","at"]
theorem sc_q57:FnScope z8a ["book"] (defScope z1y):=⟨rfl,rfl,rfl,by decide +kernel,rfl,by decide +kernel,by decide +kernel⟩
theorem zi2 {C_Endless C_SORTS C_Book C_NoKind:Addr} (B:BI mg) (O_Endless:OwnI P w K mg base "Endless" C_Endless 1) (V_SORTS:mg "SORTS"=some (.ref C_SORTS)) (W_SORTS:(∀ H,SqT K H C_SORTS ((["number","pair","power","tower"]:List Str).map V.str))/\∃ o,K.lookup C_SORTS=some o/\o.cls=.type "tuple"/\o.dict=none) (G_q30:Got P w K mg base "endless_kinds" ["book"] (25) (z4x K C_Book C_NoKind)) (G_q50:Got P w K mg base "own_ranks" ["book"] (47) (z1u K C_Book C_NoKind)) (G_q1:GotM P w K mg base C_Book "names" ["self"] (1) (z1k K C_Book)) (G_q58:Got P w K mg base "sort_of" ["ladder"] (21) (z12 K 20)) (F:Fun K "sort_needed" "sort_needed" z1y f fd):FnOk P w K mg base (L2.CX P w) (75) f fd ["book"] (z35 K C_Book C_NoKind C_Endless):=by
 refine F.okX sc_q57 (fun vs H Q E h=>?_) (fun cdv A outer s H vs Q E hr h=>?_)
 ·obtain ⟨v,b,ρ,ss,rfl,_⟩:=h
  rfl
 obtain ⟨v,b,ρ,ss,rfl,hv,ok,ow,hss,q0,qE⟩:=h
 have hun2:=hunT hr
 refine ⟨_,pss_cons (ps_set (i:=1) sc_q57.nd rfl (.inl rfl) (z00 G_q30 (hr.mono (by omega)) rfl (pa_cons (pv 0) pa_nil)))
  (pss_cons (ps_if (pt_truth (pv 1) (by intro _; rfl)) (pss_one (ps_raise rfl (takes_of rfl rfl rfl rfl) (z6g O_Endless (hr.mono (by omega)) rfl (pe_ix ix_list (pv 1) pe_int (fun _ _=>rfl))))) pss_nil)
  (pss_cons (ps_set (i:=2) sc_q57.nd rfl (.inr rfl) (z00 G_q50 (hr.mono (by omega)) rfl (pa_cons (pv 0) pa_nil)))
  (pss_cons (ps_setLc (i:=3) (own:=[("name",5)]) (g:=(gName 5)) (tt:=tYes) (te:=(tTup (tCons (tBM K "tuple" (zb8 K) (tC (.ref C_SORTS)) (tCons (tCall (z12 K 20) [] E0 (tCons (tDGet (tVar 2) (tVar 5)) tNil)) tNil)) (tCons (tVar 5) tNil)))) rfl sc_q57.nd rfl rfl (sw_true rfl rfl rfl (by decide +kernel)) (pi_list (z3l G_q1 (hr.mono (by omega)) (pv 0))) (blkOk_by (N:=z8a) (sc:=defScope z1y) (by decide +kernel)) (fun _ _ _ _ _=>(pg_name (i:=5) sc_q57.nd rfl (.inl rfl))) (fun _ _ _ _ _=>pts_nil) (fun _ _ _ _ _=>(pe_tup (pa_cons (pe_bm PySem.F.plainAttrs_tuple PySem.F.slot_tuple_index PySem.F.type_tuple_index zcp (pe_glob (v:=.ref C_SORTS) rfl V_SORTS rfl) (pa_cons (z00 G_q58 (hr.mono (by omega)) rfl (pa_cons (pe_dget (by show A.units+3+1 < cLine; omega) (pv 2) (pv 5) (fun _ _=>rfl)) pa_nil)) pa_nil)) (pa_cons (pv 5) pa_nil)))))
  (pss_cons (ps_set (i:=4) sc_q57.nd rfl (.inr rfl) (pe_callB (cr_max rfl) rfl B.max boot_max (pa_cons (pe_lc (own:=[("at",6),("name",5)]) (g:=(gTup K 2 (gCons (gName 6) (gCons (gName 5) gNil)))) (tt:=tYes) (te:=(tVar 6)) rfl sc_q57.nd (pi_list (pv 3)) (blkOk_by (N:=z8a) (sc:=defScope z1y) (by decide +kernel)) (fun _ _ _ _ _=>(pg_tup rfl (pgs_cons (pg_name (i:=6) sc_q57.nd rfl (.inl rfl)) (pgs_cons (pg_name (i:=5) sc_q57.nd rfl (.inl rfl)) pgs_nil)))) (fun _ _ _ _ _=>pts_nil) (fun _ _ _ _ _=>(pv 6))) pa_nil)))
  (pss_one (ps_ret (pe_tup (pa_cons (pe_ix ix_tup (pe_glob (v:=.ref C_SORTS) rfl V_SORTS rfl) (pv 4) (fun _ _=>rfl)) (pa_cons (pe_ix ix_list (pe_lc (own:=[("at",6),("name",5)]) (g:=(gTup K 2 (gCons (gName 6) (gCons (gName 5) gNil)))) (tt:=(tTest (tOp rEq (tVar 6) (tVar 4)))) (te:=(tVar 5)) rfl sc_q57.nd (pi_list (pv 3)) (blkOk_by (N:=z8a) (sc:=defScope z1y) (by decide +kernel)) (fun _ _ _ _ _=>(pg_tup rfl (pgs_cons (pg_name (i:=6) sc_q57.nd rfl (.inl rfl)) (pgs_cons (pg_name (i:=5) sc_q57.nd rfl (.inl rfl)) pgs_nil)))) (fun _ _ _ _ _=>(pts_one (pt_cmpR op_eq (pv 6) (pv 4) (nomark _)))) (fun _ _ _ _ _=>(pv 5))) pe_int (fun _ _=>rfl)) pa_nil))))))))),?_⟩
 obtain ⟨srt,nd,hm⟩:=hss
 obtain ⟨ow,bd⟩:=ow
 have szl:=sizeLine_eq
 have b8:=ok.len
 have b1:=ok.pos
 have nml:b.names.length=b.length:=List.length_map ..
 refine ⟨_,rfl,v,b,rfl,hv,ok,fun l ss2 H1 s1 nl hl srt2 nd2 hm2=>?_⟩
 have e1:ss2=ss:=SrtOf.same (ks:=ss) ⟨srt2,nd2,fun x=>(hm2 x).trans (hm x).symm⟩ ⟨srt,nd,fun _=>Iff.rfl⟩
 subst e1
 refine ⟨_,rfl,_,.inl ⟨_,SqL.of hl,rfl⟩,?_⟩
 cases ss2 with
 | cons n r =>
  refine iteT ?_
  refine ⟨_,rfl,l,_,_,_,rfl,rfl,SqL.of hl,atI_nat (j:=0) rfl,fun x nx=>?_⟩
  exact qE n r rfl x _ (s1.trans (SB.new nx _)) (s1.dom _ nx) upd_same
 | nil =>
 have hend:∀ n ∈ b.names,EndK b n:=fun n hn=>Classical.byContradiction fun z=>absurd ((hm n).mpr ⟨hn,z⟩) nmn
 refine iteF ?_
 refine ⟨_,rfl,v,b,ρ,rfl,hv.sb0 s1,ok,ow,fun d es H2 s2 ndd hw eo=>?_⟩
 have s02:=s1.trans s2
 obtain ⟨va,vdx,vd1,vd2,rfl,hva⟩:=hv.at
 refine ⟨_,rfl,va,vdx,_,rfl,s02.keep _ _ hva nmn,rfl,?_⟩
 refine ⟨_,b,rfl,hv.sb0 s02,by omega,fun nl2 H3 s3 nn hn=>?_⟩
 have hw3:=hw.sb0 s3
 refine ⟨nl2,rfl,⟨_,SqL.of hn⟩,fun D nD=>?_⟩
 refine z0f (walk_list (xs:=b.names.map V.str)) nD (by rw [List.length_map]; omega) (fun i us H=>Bears K H (nixE ρ) us (b.names.take i)) .nil (fun H3 s3=>s3.sqL nmn (SqL.of hn)) (fun i us H5 H6 s6 h=>h.sb s6 (z67 ρ)) (fun Pv i x Hq H4 us hi s4 y hR hu fin skip=>?_) (fun us H4 s4 hD4 hR hu=>?_)
 ·obtain ⟨rfl,ey⟩:=y
  rw [List.getElem?_map] at ey
  obtain ⟨n,en,rfl⟩:=Option.map_eq_some_iff.mp ey
  have nb:=List.mem_of_getElem? en
  have he:=hend n nb
  obtain ⟨p1,p2,p3⟩:=bd n nb he
  obtain ⟨u,hu2,hul⟩:=(hw3.sb0 s4).val ((eo.mem n).mpr ⟨nb,he⟩)
  obtain ⟨c1,c2,c3⟩:=z36 (Lad.sortT_in (ρ n))
  refine ⟨rfl,?_⟩
  refine ⟨.inr (.inl ⟨rfl,W_SORTS.2⟩),_,rfl,_,rfl,d,u,rfl,hu2,u,ρ n,rfl,hul,by omega,by omega,by omega,fun H5 s5=>?_⟩
  refine ⟨C_SORTS,srtL,(ρ n).sortT,srtI (ρ n).sortT,rfl,rfl,W_SORTS.1 H5,c1,c3,?_⟩
  refine ⟨_,rfl,by show 2<=sizeLine; decide,fun T nT=>?_⟩
  have t6:=SB.new (ps:=[]) nT (.tup [.int (srtI (ρ n).sortT:Nat),.str n])
  refine fin _ _ (s5.trans t6) ?_
  rw [List.take_add_one,en]
  exact (hR.sb (s5.trans t6) (z67 ρ)).append (.cons (.tup (SqT.of upd_same) (.cons (.int _) (.cons (.str _) .nil))) .nil)
 ·rw [List.length_map,List.take_length] at hR
  have usl:=hR.length
  have s04:=(s02.trans s3).trans s4
  refine z0d ?_
  refine ⟨_,rfl,D,rfl,⟨_,SqL.of hD4⟩,fun M nM=>?_⟩
  refine z0f (walk_list (xs:=us)) nM (by omega) (fun i ws _=>ws=((b.names.take i).map (nix ρ)).map V.int) rfl (fun H5 s5=>s5.sqL nmn (SqL.of hD4)) (fun _ _ _ _ _ h=>h) (fun Pv i x Hq H5 ws hi s5 y hW hu5 fin skip=>?_) (fun ws H5 s5 hM5 hW hu5=>?_)
  ·obtain ⟨rfl,ey⟩:=y
   obtain ⟨n,en,hn2⟩:=hR.get ey
   obtain ⟨an,rfl,hsn⟩:=za3 hn2
   refine ⟨an,_,rfl,s5.sqT hsn,rfl,_,_,rfl,_,_,rfl,rfl,rfl,?_⟩
   refine ⟨_,rfl,fin _ _ SB.refl ?_⟩
   rw [hW,List.take_add_one,en,List.map_append,List.map_append]; rfl
  rw [usl,List.take_length] at hW
  subst hW
  refine ⟨M,_,rfl,SqL.of hM5,by rw [List.length_map]; omega,fun m hm hy=>?_⟩
  obtain ⟨n0,hn0,rfl⟩:=List.mem_map.mp hm
  have hmax:∀ x ∈ b.names,nix ρ x<=nix ρ n0:=fun x hx=>hy _ (List.mem_map.mpr ⟨x,hx,rfl⟩)
  obtain ⟨c1,c2,c3⟩:=z36 (Lad.sortT_in (ρ n0))
  have s05:=s04.trans s5
  have hD5:=s5.keep _ _ hD4 nmn
  refine z0d ?_
  refine ⟨_,rfl,C_SORTS,_,_,_,rfl,rfl,W_SORTS.1 _,atI_nat (j:=srtI (ρ n0).sortT) (by rw [List.getElem?_map]; exact congrArg (Option.map V.str) c1),?_⟩
  refine ⟨_,rfl,D,rfl,⟨_,SqL.of hD5⟩,fun N nN=>?_⟩
  refine z0f (walk_list (xs:=us)) nN (by omega) (fun i ws _=>ws=((b.names.take i).filter fun x=>decide (nix ρ x=nix ρ n0)).map V.str) rfl (fun H6 s6=>s6.sqL nmn (SqL.of hD5)) (fun _ _ _ _ _ h=>h) (fun Pv i x Hq H6 ws hi s6 y hW hu6 fin skip=>?_) (fun ws H6 s6 hN6 hW hu6=>?_)
  ·obtain ⟨rfl,ey⟩:=y
   obtain ⟨n,en,hn2⟩:=hR.get ey
   obtain ⟨an,rfl,hsn⟩:=za3 hn2
   have hst:=z1r (fun x=>decide (nix ρ x=nix ρ n0)) en
   refine ⟨an,_,rfl,(s5.trans s6).sqT hsn,rfl,_,_,rfl,_,_,rfl,rfl,rfl,?_⟩
   refine ⟨_,rfl,_,rfl,rfl,_,rfl,?_⟩
   by_cases e:nix ρ n=nix ρ n0
   ·rw [show decide (V.int (nix ρ n)=V.int (nix ρ n0))=true from decide_eq_true (by rw [e])]
    refine iteT ⟨_,rfl,fin _ _ SB.refl ?_⟩
    rw [hst,if_pos (decide_eq_true e),hW]
   ·rw [show decide (V.int (nix ρ n)=V.int (nix ρ n0))=false from decide_eq_false (fun z=>e (by injection z))]
    refine iteF (skip _ SB.refl ?_)
    rw [hst,if_neg (by simp [e]),hW]
    try simp
  rw [usl,List.take_length] at hW
  cases hf:b.names.filter (fun x=>decide (nix ρ x=nix ρ n0)) with
  | nil =>
   have:n0 ∈ b.names.filter (fun x=>decide (nix ρ x=nix ρ n0)):=List.mem_filter.mpr ⟨hn0,by simp⟩
   rw [hf] at this
   exact absurd this nmn
  | cons n1 r1 =>
   rw [hf] at hW
   subst hW
   obtain ⟨j,ej,en1,hbef⟩:=z7r hf
   have e1:nix ρ n1=nix ρ n0:=of_decide_eq_true en1
   refine ⟨N,_,_,_,rfl,rfl,SqL.of hN6,atI_nat (j:=0) rfl,by show 2<=sizeLine; decide,fun T nT=>?_⟩
   have se:(ρ n0).sortT=(ρ n1).sortT:=by
    obtain ⟨d1,_,_⟩:=z36 (Lad.sortT_in (ρ n1))
    have e2:srtI (ρ n1).sortT=srtI (ρ n0).sortT:=by
     have:((srtI (ρ n1).sortT:Nat):Int)=(srtI (ρ n0).sortT:Nat):=e1
     omega
    rw [e2,c1] at d1
    exact Option.some.inj d1
   refine q0 rfl T _ _ _ ((s05.trans s6).trans (SB.new nT _)) (SqT.of upd_same) ⟨j,ej,se,fun x hx=>by rw [e1]; exact hmax x hx,fun i x hi hx=>?_⟩
   have:=of_decide_eq_false (hbef i x hi hx)
   rw [e1]; exact this
abbrev ze8:List Str:=["_law_purse_here","_law_names_here","_law_bare","_law_held","_law_rules","_law_k"]
theorem sc_q14:FnScope ze8 ["_law_purse_here"] (defScope z3m):=⟨rfl,rfl,rfl,by decide +kernel,rfl,by decide +kernel,by decide +kernel⟩
theorem zhj (B:BI mg) (G_q12:Got P w K mg base "_law_names" ["_law_purse_here","_law_many"] (2) (z3u K)) (G_q7:Got P w K mg base "_law_draw" ["_law_purse_here","_law_many"] (1) (z13)) (F:Fun K "_law_planted" "_law_planted" z3m f fd):FnOk P w K mg base CX0 (6) f fd ["_law_purse_here"] (z0s K):=by
 refine F.ok sc_q14 (fun vs H Q E h=>?_) (fun cdv A outer s H vs Q E hr h=>?_)
 ·obtain ⟨p,rfl,_⟩:=h
  rfl
 obtain ⟨p,rfl,hp,q⟩:=h
 have hun2:=hunT hr
 refine ⟨_,pss_cons (ps_set (i:=1) sc_q14.nd rfl (.inr rfl) (z00 G_q12 (hr.mono (by omega)) rfl (pa_cons (pv 0) (pa_cons pe_int pa_nil))))
  (pss_cons (ps_set (i:=2) sc_q14.nd rfl (.inl rfl) (pe_tup (pa_cons (pe_tup (pa_cons (pe_tup (pa_cons (pe_ix ix_list (pv 1) pe_int (fun _ _=>rfl)) (pa_cons (pe_tup pa_nil) pa_nil))) (pa_cons (pe_op op_add pe_int (z00 G_q7 (hr.mono (by omega)) rfl (pa_cons (pv 0) (pa_cons pe_int pa_nil)))) pa_nil))) pa_nil)))
  (pss_cons (ps_set (i:=3) sc_q14.nd rfl (.inl rfl) (pe_tup (pa_cons (pe_tup (pa_cons (pe_tup (pa_cons (pe_ix ix_list (pv 1) pe_int (fun _ _=>rfl)) (pa_cons (pe_tup (pa_cons (pe_tup (pa_cons (pe_tup (pa_cons (pe_ix ix_list (pv 1) pe_int (fun _ _=>rfl)) (pa_cons (pe_tup pa_nil) pa_nil))) (pa_cons (pe_op op_add pe_int (z00 G_q7 (hr.mono (by omega)) rfl (pa_cons (pv 0) (pa_cons pe_int pa_nil)))) pa_nil))) pa_nil)) pa_nil))) (pa_cons pe_int pa_nil))) pa_nil)))
  (pss_cons (ps_set (i:=4) sc_q14.nd rfl (.inr rfl) (pe_lst (pa_cons (pe_lst pa_nil) (pa_cons (pe_lst pa_nil) (pa_cons (pe_lst (pa_cons (pe_tup (pa_cons (pe_tup pa_nil) (pa_cons (pv 2) pa_nil))) pa_nil)) (pa_cons (pe_lst (pa_cons (pe_tup (pa_cons (pe_tup pa_nil) (pa_cons (pv 3) pa_nil))) pa_nil)) pa_nil))))))
  (pss_one (ps_ret (pe_lc (own:=[("_law_k",5)]) (g:=(gName 5)) (tt:=tYes) (te:=(tTup (tCons (tOp (rIxL K) (tVar 1) (tVar 5)) (tCons (tOp rEq (tVar 5) (tC (.int 1))) (tCons (tOp (rIxL K) (tVar 4) (tVar 5)) tNil))))) rfl sc_q14.nd (pi_range1 rfl B.range (pa_cons pe_int pa_nil)) (blkOk_by (N:=ze8) (sc:=defScope z3m) (by decide +kernel)) (fun _ _ _ _ _=>(pg_name (i:=5) sc_q14.nd rfl (.inl rfl))) (fun _ _ _ _ _=>pts_nil) (fun _ _ _ _ _=>(pe_tup (pa_cons (pe_ix ix_list (pv 1) (pv 5) (fun _ _=>rfl)) (pa_cons (pe_cmpR op_eq (pv 5) pe_int (nomark _)) (pa_cons (pe_ix ix_list (pv 4) (pv 5) (fun _ _=>rfl)) pa_nil))))))))))),?_⟩
 have szl:=sizeLine_eq
 refine ⟨_,rfl,p,4,rfl,hp,by decide,by decide,fun nl ks H1 s1 hp1 nnl hn kl kok knd=>?_⟩
 obtain ⟨n0,n1,n2,n3,rfl⟩:∃ n0 n1 n2 n3,ks=[n0,n1,n2,n3]:=by
  match ks,kl with
  | [a,b,c,d],_=>exact ⟨a,b,c,d,rfl⟩
 have np:nl ≠ p:=fun z=>by have:=Pu.some hp p (by simp); rw [<- z] at this; exact this nnl
 have pnl:nl ∉ [p]:=by simpa using np
 refine z0d ?_
 refine ⟨_,rfl,nl,_,_,_,rfl,rfl,SqL.of hn,atI_nat (j:=0) rfl,by show 0<=sizeLine; decide,fun e0 ne0=>?_⟩
 have t1:=SB.new (ps:=[]) ne0 (.tup [])
 have he0:SqT K (upd H1 e0 (.tup [])) e0 []:=SqT.of upd_same
 have hn_1:=t1.keep _ _ hn nmn
 have hp_1:=hp1.sb t1
 have S_1:=s1.trans (t1.nil (ps:=[p]))
 generalize upd H1 e0 (.tup [])=G1 at t1 hn_1 hp_1 S_1 he0
 refine ⟨by show 2<=sizeLine; decide,fun a1 na1=>?_⟩
 have t2:=SB.new (ps:=[]) na1 (.tup [.str n0,.ref e0])
 have ha1:SqT K (upd G1 a1 (.tup [.str n0,.ref e0])) a1 [.str n0,.ref e0]:=SqT.of upd_same
 have hn_2:=t2.keep _ _ hn_1 nmn
 have hp_2:=hp_1.sb t2
 have S_2:=S_1.trans (t2.nil (ps:=[p]))
 have he0_2:=t2.sqT he0
 generalize upd G1 a1 (.tup [.str n0,.ref e0])=G2 at t2 hn_2 hp_2 S_2 he0_2 ha1
 refine ⟨_,rfl,p,3,rfl,hp_2,by decide,by decide,fun r4 G3 r40 r43 s4 hp4=>?_⟩
 have hn_3:=s4.keep _ _ hn_2 (by simpa using np)
 have S_3:=S_2.trans s4
 have he0_3:=s4.sqT he0_2
 have ha1_3:=s4.sqT ha1
 refine ⟨_,_,rfl,rfl,by show 2<=sizeLine; decide,fun a2 na2=>?_⟩
 have t4:=SB.new (ps:=[]) na2 (.tup [.ref a1,.int (1+r4)])
 have ha2:SqT K (upd G3 a2 (.tup [.ref a1,.int (1+r4)])) a2 [.ref a1,.int (1+r4)]:=SqT.of upd_same
 have hn_4:=t4.keep _ _ hn_3 nmn
 have hp_4:=hp4.sb t4
 have S_4:=S_3.trans (t4.nil (ps:=[p]))
 have he0_4:=t4.sqT he0_3
 have ha1_4:=t4.sqT ha1_3
 generalize upd G3 a2 (.tup [.ref a1,.int (1+r4)])=G4 at t4 hn_4 hp_4 S_4 he0_4 ha1_4 ha2
 refine ⟨by show 1<=sizeLine; decide,fun B nB=>?_⟩
 have t5:=SB.new (ps:=[]) nB (.tup [.ref a2])
 have hB:SqT K (upd G4 B (.tup [.ref a2])) B [.ref a2]:=SqT.of upd_same
 have hn_5:=t5.keep _ _ hn_4 nmn
 have hp_5:=hp_4.sb t5
 have S_5:=S_4.trans (t5.nil (ps:=[p]))
 have he0_5:=t5.sqT he0_4
 have ha1_5:=t5.sqT ha1_4
 have ha2_5:=t5.sqT ha2
 generalize upd G4 B (.tup [.ref a2])=G5 at t5 hn_5 hp_5 S_5 he0_5 ha1_5 ha2_5 hB
 refine z0d ?_
 refine ⟨_,rfl,nl,_,_,_,rfl,rfl,SqL.of hn_5,atI_nat (j:=1) rfl,_,rfl,nl,_,_,_,rfl,rfl,SqL.of hn_5,atI_nat (j:=2) rfl,by show 0<=sizeLine; decide,fun e1 ne1=>?_⟩
 have t6:=SB.new (ps:=[]) ne1 (.tup [])
 have he1:SqT K (upd G5 e1 (.tup [])) e1 []:=SqT.of upd_same
 have hn_6:=t6.keep _ _ hn_5 nmn
 have hp_6:=hp_5.sb t6
 have S_6:=S_5.trans (t6.nil (ps:=[p]))
 have he0_6:=t6.sqT he0_5
 have ha1_6:=t6.sqT ha1_5
 have ha2_6:=t6.sqT ha2_5
 have hB_6:=t6.sqT hB
 generalize upd G5 e1 (.tup [])=G6 at t6 hn_6 hp_6 S_6 he0_6 ha1_6 ha2_6 hB_6 he1
 refine ⟨by show 2<=sizeLine; decide,fun c1 nc1=>?_⟩
 have t7:=SB.new (ps:=[]) nc1 (.tup [.str n2,.ref e1])
 have hc1:SqT K (upd G6 c1 (.tup [.str n2,.ref e1])) c1 [.str n2,.ref e1]:=SqT.of upd_same
 have hn_7:=t7.keep _ _ hn_6 nmn
 have hp_7:=hp_6.sb t7
 have S_7:=S_6.trans (t7.nil (ps:=[p]))
 have he0_7:=t7.sqT he0_6
 have ha1_7:=t7.sqT ha1_6
 have ha2_7:=t7.sqT ha2_6
 have hB_7:=t7.sqT hB_6
 have he1_7:=t7.sqT he1
 generalize upd G6 c1 (.tup [.str n2,.ref e1])=G7 at t7 hn_7 hp_7 S_7 he0_7 ha1_7 ha2_7 hB_7 he1_7 hc1
 refine ⟨_,rfl,p,3,rfl,hp_7,by decide,by decide,fun r5 G8 r50 r53 s5 hp5=>?_⟩
 have hn_8:=s5.keep _ _ hn_7 (by simpa using np)
 have S_8:=S_7.trans s5
 have he0_8:=s5.sqT he0_7
 have ha1_8:=s5.sqT ha1_7
 have ha2_8:=s5.sqT ha2_7
 have hB_8:=s5.sqT hB_7
 have he1_8:=s5.sqT he1_7
 have hc1_8:=s5.sqT hc1
 refine ⟨_,_,rfl,rfl,by show 2<=sizeLine; decide,fun c2 nc2=>?_⟩
 have t9:=SB.new (ps:=[]) nc2 (.tup [.ref c1,.int (1+r5)])
 have hc2:SqT K (upd G8 c2 (.tup [.ref c1,.int (1+r5)])) c2 [.ref c1,.int (1+r5)]:=SqT.of upd_same
 have hn_9:=t9.keep _ _ hn_8 nmn
 have hp_9:=hp5.sb t9
 have S_9:=S_8.trans (t9.nil (ps:=[p]))
 have he0_9:=t9.sqT he0_8
 have ha1_9:=t9.sqT ha1_8
 have ha2_9:=t9.sqT ha2_8
 have hB_9:=t9.sqT hB_8
 have he1_9:=t9.sqT he1_8
 have hc1_9:=t9.sqT hc1_8
 generalize upd G8 c2 (.tup [.ref c1,.int (1+r5)])=G9 at t9 hn_9 hp_9 S_9 he0_9 ha1_9 ha2_9 hB_9 he1_9 hc1_9 hc2
 refine ⟨by show 1<=sizeLine; decide,fun C nC=>?_⟩
 have t10:=SB.new (ps:=[]) nC (.tup [.ref c2])
 have hC:SqT K (upd G9 C (.tup [.ref c2])) C [.ref c2]:=SqT.of upd_same
 have hn_10:=t10.keep _ _ hn_9 nmn
 have hp_10:=hp_9.sb t10
 have S_10:=S_9.trans (t10.nil (ps:=[p]))
 have he0_10:=t10.sqT he0_9
 have ha1_10:=t10.sqT ha1_9
 have ha2_10:=t10.sqT ha2_9
 have hB_10:=t10.sqT hB_9
 have he1_10:=t10.sqT he1_9
 have hc1_10:=t10.sqT hc1_9
 have hc2_10:=t10.sqT hc2
 generalize upd G9 C (.tup [.ref c2])=G10 at t10 hn_10 hp_10 S_10 he0_10 ha1_10 ha2_10 hB_10 he1_10 hc1_10 hc2_10 hC
 refine ⟨by show 2<=sizeLine; decide,fun d1 nd1=>?_⟩
 have t11:=SB.new (ps:=[]) nd1 (.tup [.str n1,.ref C])
 have hd1:SqT K (upd G10 d1 (.tup [.str n1,.ref C])) d1 [.str n1,.ref C]:=SqT.of upd_same
 have hn_11:=t11.keep _ _ hn_10 nmn
 have hp_11:=hp_10.sb t11
 have S_11:=S_10.trans (t11.nil (ps:=[p]))
 have he0_11:=t11.sqT he0_10
 have ha1_11:=t11.sqT ha1_10
 have ha2_11:=t11.sqT ha2_10
 have hB_11:=t11.sqT hB_10
 have he1_11:=t11.sqT he1_10
 have hc1_11:=t11.sqT hc1_10
 have hc2_11:=t11.sqT hc2_10
 have hC_11:=t11.sqT hC
 generalize upd G10 d1 (.tup [.str n1,.ref C])=G11 at t11 hn_11 hp_11 S_11 he0_11 ha1_11 ha2_11 hB_11 he1_11 hc1_11 hc2_11 hC_11 hd1
 refine ⟨by show 2<=sizeLine; decide,fun d2 nd2=>?_⟩
 have t12:=SB.new (ps:=[]) nd2 (.tup [.ref d1,.int 1])
 have hd2:SqT K (upd G11 d2 (.tup [.ref d1,.int 1])) d2 [.ref d1,.int 1]:=SqT.of upd_same
 have hn_12:=t12.keep _ _ hn_11 nmn
 have hp_12:=hp_11.sb t12
 have S_12:=S_11.trans (t12.nil (ps:=[p]))
 have he0_12:=t12.sqT he0_11
 have ha1_12:=t12.sqT ha1_11
 have ha2_12:=t12.sqT ha2_11
 have hB_12:=t12.sqT hB_11
 have he1_12:=t12.sqT he1_11
 have hc1_12:=t12.sqT hc1_11
 have hc2_12:=t12.sqT hc2_11
 have hC_12:=t12.sqT hC_11
 have hd1_12:=t12.sqT hd1
 generalize upd G11 d2 (.tup [.ref d1,.int 1])=G12 at t12 hn_12 hp_12 S_12 he0_12 ha1_12 ha2_12 hB_12 he1_12 hc1_12 hc2_12 hC_12 hd1_12 hd2
 refine ⟨by show 1<=sizeLine; decide,fun D nD=>?_⟩
 have t13:=SB.new (ps:=[]) nD (.tup [.ref d2])
 have hD:SqT K (upd G12 D (.tup [.ref d2])) D [.ref d2]:=SqT.of upd_same
 have hn_13:=t13.keep _ _ hn_12 nmn
 have hp_13:=hp_12.sb t13
 have S_13:=S_12.trans (t13.nil (ps:=[p]))
 have he0_13:=t13.sqT he0_12
 have ha1_13:=t13.sqT ha1_12
 have ha2_13:=t13.sqT ha2_12
 have hB_13:=t13.sqT hB_12
 have he1_13:=t13.sqT he1_12
 have hc1_13:=t13.sqT hc1_12
 have hc2_13:=t13.sqT hc2_12
 have hC_13:=t13.sqT hC_12
 have hd1_13:=t13.sqT hd1_12
 have hd2_13:=t13.sqT hd2
 generalize upd G12 D (.tup [.ref d2])=G13 at t13 hn_13 hp_13 S_13 he0_13 ha1_13 ha2_13 hB_13 he1_13 hc1_13 hc2_13 hC_13 hd1_13 hd2_13 hD
 refine z0d ?_
 refine ⟨by show 0<=sizeLine; decide,fun L0 nL0=>?_⟩
 have t14:=SB.new (ps:=[]) nL0 (.lst [])
 have hL0:upd G13 L0 (.lst []) L0=some (.lst []):=upd_same
 have pL0:=hp_13.ne nL0
 have hn_14:=t14.keep _ _ hn_13 nmn
 have hp_14:=hp_13.sb t14
 have S_14:=S_13.trans (t14.nil (ps:=[p]))
 have he0_14:=t14.sqT he0_13
 have ha1_14:=t14.sqT ha1_13
 have ha2_14:=t14.sqT ha2_13
 have hB_14:=t14.sqT hB_13
 have he1_14:=t14.sqT he1_13
 have hc1_14:=t14.sqT hc1_13
 have hc2_14:=t14.sqT hc2_13
 have hC_14:=t14.sqT hC_13
 have hd1_14:=t14.sqT hd1_13
 have hd2_14:=t14.sqT hd2_13
 have hD_14:=t14.sqT hD
 generalize upd G13 L0 (.lst [])=G14 at t14 hn_14 hp_14 S_14 he0_14 ha1_14 ha2_14 hB_14 he1_14 hc1_14 hc2_14 hC_14 hd1_14 hd2_14 hD_14 hL0
 refine ⟨by show 0<=sizeLine; decide,fun L1 nL1=>?_⟩
 have t15:=SB.new (ps:=[]) nL1 (.lst [])
 have hL1:upd G14 L1 (.lst []) L1=some (.lst []):=upd_same
 have pL1:=hp_14.ne nL1
 have hn_15:=t15.keep _ _ hn_14 nmn
 have hp_15:=hp_14.sb t15
 have S_15:=S_14.trans (t15.nil (ps:=[p]))
 have he0_15:=t15.sqT he0_14
 have ha1_15:=t15.sqT ha1_14
 have ha2_15:=t15.sqT ha2_14
 have hB_15:=t15.sqT hB_14
 have he1_15:=t15.sqT he1_14
 have hc1_15:=t15.sqT hc1_14
 have hc2_15:=t15.sqT hc2_14
 have hC_15:=t15.sqT hC_14
 have hd1_15:=t15.sqT hd1_14
 have hd2_15:=t15.sqT hd2_14
 have hD_15:=t15.sqT hD_14
 have hL0_15:=t15.keep _ _ hL0 nmn
 generalize upd G14 L1 (.lst [])=G15 at t15 hn_15 hp_15 S_15 he0_15 ha1_15 ha2_15 hB_15 he1_15 hc1_15 hc2_15 hC_15 hd1_15 hd2_15 hD_15 hL0_15 hL1
 refine ⟨by show 0<=sizeLine; decide,fun e2 ne2=>?_⟩
 have t16:=SB.new (ps:=[]) ne2 (.tup [])
 have he2:SqT K (upd G15 e2 (.tup [])) e2 []:=SqT.of upd_same
 have hn_16:=t16.keep _ _ hn_15 nmn
 have hp_16:=hp_15.sb t16
 have S_16:=S_15.trans (t16.nil (ps:=[p]))
 have he0_16:=t16.sqT he0_15
 have ha1_16:=t16.sqT ha1_15
 have ha2_16:=t16.sqT ha2_15
 have hB_16:=t16.sqT hB_15
 have he1_16:=t16.sqT he1_15
 have hc1_16:=t16.sqT hc1_15
 have hc2_16:=t16.sqT hc2_15
 have hC_16:=t16.sqT hC_15
 have hd1_16:=t16.sqT hd1_15
 have hd2_16:=t16.sqT hd2_15
 have hD_16:=t16.sqT hD_15
 have hL0_16:=t16.keep _ _ hL0_15 nmn
 have hL1_16:=t16.keep _ _ hL1 nmn
 generalize upd G15 e2 (.tup [])=G16 at t16 hn_16 hp_16 S_16 he0_16 ha1_16 ha2_16 hB_16 he1_16 hc1_16 hc2_16 hC_16 hd1_16 hd2_16 hD_16 hL0_16 hL1_16 he2
 refine ⟨_,rfl,by show 2<=sizeLine; decide,fun f2 nf2=>?_⟩
 have t17:=SB.new (ps:=[]) nf2 (.tup [.ref e2,.ref B])
 have hf2:SqT K (upd G16 f2 (.tup [.ref e2,.ref B])) f2 [.ref e2,.ref B]:=SqT.of upd_same
 have hn_17:=t17.keep _ _ hn_16 nmn
 have hp_17:=hp_16.sb t17
 have S_17:=S_16.trans (t17.nil (ps:=[p]))
 have he0_17:=t17.sqT he0_16
 have ha1_17:=t17.sqT ha1_16
 have ha2_17:=t17.sqT ha2_16
 have hB_17:=t17.sqT hB_16
 have he1_17:=t17.sqT he1_16
 have hc1_17:=t17.sqT hc1_16
 have hc2_17:=t17.sqT hc2_16
 have hC_17:=t17.sqT hC_16
 have hd1_17:=t17.sqT hd1_16
 have hd2_17:=t17.sqT hd2_16
 have hD_17:=t17.sqT hD_16
 have hL0_17:=t17.keep _ _ hL0_16 nmn
 have hL1_17:=t17.keep _ _ hL1_16 nmn
 have he2_17:=t17.sqT he2
 generalize upd G16 f2 (.tup [.ref e2,.ref B])=G17 at t17 hn_17 hp_17 S_17 he0_17 ha1_17 ha2_17 hB_17 he1_17 hc1_17 hc2_17 hC_17 hd1_17 hd2_17 hD_17 hL0_17 hL1_17 he2_17 hf2
 refine ⟨by show 1<=sizeLine; decide,fun L2 nL2=>?_⟩
 have t18:=SB.new (ps:=[]) nL2 (.lst [.ref f2])
 have hL2:upd G17 L2 (.lst [.ref f2]) L2=some (.lst [.ref f2]):=upd_same
 have pL2:=hp_17.ne nL2
 have hn_18:=t18.keep _ _ hn_17 nmn
 have hp_18:=hp_17.sb t18
 have S_18:=S_17.trans (t18.nil (ps:=[p]))
 have he0_18:=t18.sqT he0_17
 have ha1_18:=t18.sqT ha1_17
 have ha2_18:=t18.sqT ha2_17
 have hB_18:=t18.sqT hB_17
 have he1_18:=t18.sqT he1_17
 have hc1_18:=t18.sqT hc1_17
 have hc2_18:=t18.sqT hc2_17
 have hC_18:=t18.sqT hC_17
 have hd1_18:=t18.sqT hd1_17
 have hd2_18:=t18.sqT hd2_17
 have hD_18:=t18.sqT hD_17
 have hL0_18:=t18.keep _ _ hL0_17 nmn
 have hL1_18:=t18.keep _ _ hL1_17 nmn
 have he2_18:=t18.sqT he2_17
 have hf2_18:=t18.sqT hf2
 generalize upd G17 L2 (.lst [.ref f2])=G18 at t18 hn_18 hp_18 S_18 he0_18 ha1_18 ha2_18 hB_18 he1_18 hc1_18 hc2_18 hC_18 hd1_18 hd2_18 hD_18 hL0_18 hL1_18 he2_18 hf2_18 hL2
 refine ⟨by show 0<=sizeLine; decide,fun e3 ne3=>?_⟩
 have t19:=SB.new (ps:=[]) ne3 (.tup [])
 have he3:SqT K (upd G18 e3 (.tup [])) e3 []:=SqT.of upd_same
 have hn_19:=t19.keep _ _ hn_18 nmn
 have hp_19:=hp_18.sb t19
 have S_19:=S_18.trans (t19.nil (ps:=[p]))
 have he0_19:=t19.sqT he0_18
 have ha1_19:=t19.sqT ha1_18
 have ha2_19:=t19.sqT ha2_18
 have hB_19:=t19.sqT hB_18
 have he1_19:=t19.sqT he1_18
 have hc1_19:=t19.sqT hc1_18
 have hc2_19:=t19.sqT hc2_18
 have hC_19:=t19.sqT hC_18
 have hd1_19:=t19.sqT hd1_18
 have hd2_19:=t19.sqT hd2_18
 have hD_19:=t19.sqT hD_18
 have hL0_19:=t19.keep _ _ hL0_18 nmn
 have hL1_19:=t19.keep _ _ hL1_18 nmn
 have he2_19:=t19.sqT he2_18
 have hf2_19:=t19.sqT hf2_18
 have hL2_19:=t19.keep _ _ hL2 nmn
 generalize upd G18 e3 (.tup [])=G19 at t19 hn_19 hp_19 S_19 he0_19 ha1_19 ha2_19 hB_19 he1_19 hc1_19 hc2_19 hC_19 hd1_19 hd2_19 hD_19 hL0_19 hL1_19 he2_19 hf2_19 hL2_19 he3
 refine ⟨_,rfl,by show 2<=sizeLine; decide,fun f3 nf3=>?_⟩
 have t20:=SB.new (ps:=[]) nf3 (.tup [.ref e3,.ref D])
 have hf3:SqT K (upd G19 f3 (.tup [.ref e3,.ref D])) f3 [.ref e3,.ref D]:=SqT.of upd_same
 have hn_20:=t20.keep _ _ hn_19 nmn
 have hp_20:=hp_19.sb t20
 have S_20:=S_19.trans (t20.nil (ps:=[p]))
 have he0_20:=t20.sqT he0_19
 have ha1_20:=t20.sqT ha1_19
 have ha2_20:=t20.sqT ha2_19
 have hB_20:=t20.sqT hB_19
 have he1_20:=t20.sqT he1_19
 have hc1_20:=t20.sqT hc1_19
 have hc2_20:=t20.sqT hc2_19
 have hC_20:=t20.sqT hC_19
 have hd1_20:=t20.sqT hd1_19
 have hd2_20:=t20.sqT hd2_19
 have hD_20:=t20.sqT hD_19
 have hL0_20:=t20.keep _ _ hL0_19 nmn
 have hL1_20:=t20.keep _ _ hL1_19 nmn
 have he2_20:=t20.sqT he2_19
 have hf2_20:=t20.sqT hf2_19
 have hL2_20:=t20.keep _ _ hL2_19 nmn
 have he3_20:=t20.sqT he3
 generalize upd G19 f3 (.tup [.ref e3,.ref D])=G20 at t20 hn_20 hp_20 S_20 he0_20 ha1_20 ha2_20 hB_20 he1_20 hc1_20 hc2_20 hC_20 hd1_20 hd2_20 hD_20 hL0_20 hL1_20 he2_20 hf2_20 hL2_20 he3_20 hf3
 refine ⟨by show 1<=sizeLine; decide,fun L3 nL3=>?_⟩
 have t21:=SB.new (ps:=[]) nL3 (.lst [.ref f3])
 have hL3:upd G20 L3 (.lst [.ref f3]) L3=some (.lst [.ref f3]):=upd_same
 have pL3:=hp_20.ne nL3
 have hn_21:=t21.keep _ _ hn_20 nmn
 have hp_21:=hp_20.sb t21
 have S_21:=S_20.trans (t21.nil (ps:=[p]))
 have he0_21:=t21.sqT he0_20
 have ha1_21:=t21.sqT ha1_20
 have ha2_21:=t21.sqT ha2_20
 have hB_21:=t21.sqT hB_20
 have he1_21:=t21.sqT he1_20
 have hc1_21:=t21.sqT hc1_20
 have hc2_21:=t21.sqT hc2_20
 have hC_21:=t21.sqT hC_20
 have hd1_21:=t21.sqT hd1_20
 have hd2_21:=t21.sqT hd2_20
 have hD_21:=t21.sqT hD_20
 have hL0_21:=t21.keep _ _ hL0_20 nmn
 have hL1_21:=t21.keep _ _ hL1_20 nmn
 have he2_21:=t21.sqT he2_20
 have hf2_21:=t21.sqT hf2_20
 have hL2_21:=t21.keep _ _ hL2_20 nmn
 have he3_21:=t21.sqT he3_20
 have hf3_21:=t21.sqT hf3
 generalize upd G20 L3 (.lst [.ref f3])=G21 at t21 hn_21 hp_21 S_21 he0_21 ha1_21 ha2_21 hB_21 he1_21 hc1_21 hc2_21 hC_21 hd1_21 hd2_21 hD_21 hL0_21 hL1_21 he2_21 hf2_21 hL2_21 he3_21 hf3_21 hL3
 refine ⟨by show 4<=sizeLine; decide,fun W nW=>?_⟩
 have t22:=SB.new (ps:=[]) nW (.lst [.ref L0,.ref L1,.ref L2,.ref L3])
 have hW:upd G21 W (.lst [.ref L0,.ref L1,.ref L2,.ref L3]) W=some (.lst [.ref L0,.ref L1,.ref L2,.ref L3]):=upd_same
 have pW:=hp_21.ne nW
 have hn_22:=t22.keep _ _ hn_21 nmn
 have hp_22:=hp_21.sb t22
 have S_22:=S_21.trans (t22.nil (ps:=[p]))
 have he0_22:=t22.sqT he0_21
 have ha1_22:=t22.sqT ha1_21
 have ha2_22:=t22.sqT ha2_21
 have hB_22:=t22.sqT hB_21
 have he1_22:=t22.sqT he1_21
 have hc1_22:=t22.sqT hc1_21
 have hc2_22:=t22.sqT hc2_21
 have hC_22:=t22.sqT hC_21
 have hd1_22:=t22.sqT hd1_21
 have hd2_22:=t22.sqT hd2_21
 have hD_22:=t22.sqT hD_21
 have hL0_22:=t22.keep _ _ hL0_21 nmn
 have hL1_22:=t22.keep _ _ hL1_21 nmn
 have he2_22:=t22.sqT he2_21
 have hf2_22:=t22.sqT hf2_21
 have hL2_22:=t22.keep _ _ hL2_21 nmn
 have he3_22:=t22.sqT he3_21
 have hf3_22:=t22.sqT hf3_21
 have hL3_22:=t22.keep _ _ hL3 nmn
 generalize upd G21 W (.lst [.ref L0,.ref L1,.ref L2,.ref L3])=G22 at t22 hn_22 hp_22 S_22 he0_22 ha1_22 ha2_22 hB_22 he1_22 hc1_22 hc2_22 hC_22 hd1_22 hd2_22 hD_22 hL0_22 hL1_22 he2_22 hf2_22 hL2_22 he3_22 hf3_22 hL3_22 hW
 refine z0d ?_
 let gb:Gr:=.cons n0 .nil (1+r4) .nil
 let gh:Gr:=.cons n1 (.cons n2 .nil (1+r5) .nil) 1 .nil
 have hR2:Dp K G22 (.ref f2) (Ru.enc (.nil,gb)):=(.tup hf2_22 (.cons (.tup he2_22 .nil) (.cons (.tup hB_22 (.cons (.tup ha2_22 (.cons (.tup ha1_22 (.cons (.str _) (.cons (.tup he0_22 .nil) .nil))) (.cons (.int _) .nil))) .nil)) .nil)))
 have hR3:Dp K G22 (.ref f3) (Ru.enc (.nil,gh)):=(.tup hf3_22 (.cons (.tup he3_22 .nil) (.cons (.tup hD_22 (.cons (.tup hd2_22 (.cons (.tup hd1_22 (.cons (.str _) (.cons (.tup hC_22 (.cons (.tup hc2_22 (.cons (.tup hc1_22 (.cons (.str _) (.cons (.tup he1_22 .nil) .nil))) (.cons (.int _) .nil))) .nil)) .nil))) (.cons (.int _) .nil))) .nil)) .nil)))
 have k0:=kok n0 (by simp)
 have k1:=kok n1 (by simp)
 have k2:=kok n2 (by simp)
 have k3:=kok n3 (by simp)
 have ob:gb.Ok (10 ^ 9+1):=⟨k0,trivial,by omega,by omega,trivial,fun p hp=>nomatch hp⟩
 have oh:gh.Ok (10 ^ 9+1):=⟨k1,⟨k2,trivial,by omega,by omega,trivial,fun p hp=>nomatch hp⟩,by omega,by omega,trivial,fun p hp=>nomatch hp⟩
 let bk:Bk:=[⟨n0,false,[]⟩,⟨n1,true,[]⟩,⟨n2,false,[(.nil,gb)]⟩,⟨n3,false,[(.nil,gh)]⟩]
 have bok:bk.Ok:=by
  refine Bk.Ok.of_perm (ks:=[n0,n1,n2,n3]) (by show 1<=4; decide) (by show 4<=8; decide) knd (List.Perm.refl _) fun k hk=>?_
  have wb:∀ x ∈ Ru.within (.nil,gb),x.1.1 ∈ [n0,n1,n2,n3]:=fun x hx=>by
   have e:Ru.within (.nil,gb)=[((n0,.nil),1+r4)]:=rfl
   rw [e,List.mem_singleton] at hx; subst hx; simp
  have wh:∀ x ∈ Ru.within (.nil,gh),x.1.1 ∈ [n0,n1,n2,n3]:=fun x hx=>by
   have e:Ru.within (.nil,gh)=[((n1,.cons n2 .nil (1+r5) .nil),1),((n2,.nil),1+r5)]:=rfl
   rw [e] at hx
   rcases List.mem_cons.mp hx with hx | hx
   ·subst hx; simp
   ·rw [List.mem_singleton] at hx; subst hx; simp
  rcases List.mem_cons.mp hk with e | hk
  ·subst e; exact ⟨k0,by show 0<=4; decide,fun r hr=>nomatch hr⟩
  rcases List.mem_cons.mp hk with e | hk
  ·subst e; exact ⟨k1,by show 0<=4; decide,fun r hr=>nomatch hr⟩
  rcases List.mem_cons.mp hk with e | hk
  ·subst e; exact ⟨k2,by show 1<=4; decide,fun r hr=>by rw [List.mem_singleton.mp hr]; exact ⟨⟨trivial,ob,by show 0+(1+0+0)<=4; decide⟩,wb⟩⟩
  ·rw [List.mem_singleton] at hk
   subst hk; exact ⟨k3,by show 1<=4; decide,fun r hr=>by rw [List.mem_singleton.mp hr]; exact ⟨⟨trivial,oh,by show 0+(1+(1+0+0)+0)<=4; decide⟩,wh⟩⟩
 have bfew:Few2 bk:=fun k hk=>by
  rcases List.mem_cons.mp hk with e | hk
  ·subst e; exact ⟨by show 0<=3; decide,fun r hr=>nomatch hr⟩
  rcases List.mem_cons.mp hk with e | hk
  ·subst e; exact ⟨by show 0<=3; decide,fun r hr=>nomatch hr⟩
  rcases List.mem_cons.mp hk with e | hk
  ·subst e; exact ⟨by show 1<=3; decide,fun r hr=>by rw [List.mem_singleton.mp hr]; show 0+(1+0+0)<=2; decide⟩
  ·rw [List.mem_singleton] at hk
   subst hk; exact ⟨by show 1<=3; decide,fun r hr=>by rw [List.mem_singleton.mp hr]; show 0+(1+(1+0+0)+0)<=2; decide⟩
 have sS:=S_22
 have hp9:=hp_22
 have hn9:=hn_22
 have hW9:=hW
 have h0:=hL0_22
 have h1:=hL1_22
 have h2:=hL2_22
 have h3:=hL3_22
 have bkl:bk.length=4:=rfl
 have hrow:∀ i:Nat,i < 4->∃ (n:Str) (w:Bool) (rs:List Ru) (lk:Addr) (zs:List V),atI ([n0,n1,n2,n3].map V.str) (0+(i:Int))=some (.str n)/\decide (V.int (0+(i:Int))=V.int 1)=w/\atI [V.ref L0,.ref L1,.ref L2,.ref L3] (0+(i:Int))=some (.ref lk)/\G22 lk=some (.lst zs)/\Bears K G22 Ru.enc zs rs/\lk ≠ p/\bk[i]?=some ⟨n,w,rs⟩:=fun i hi=>by
  match i,hi with
  | 0,_=>exact ⟨n0,false,[],L0,[],rfl,by decide +kernel,rfl,h0,.nil,pL0.symm,rfl⟩
  | 1,_=>exact ⟨n1,true,[],L1,[],rfl,by decide +kernel,rfl,h1,.nil,pL1.symm,rfl⟩
  | 2,_=>exact ⟨n2,false,[(.nil,gb)],L2,[.ref f2],rfl,by decide +kernel,rfl,h2,.cons hR2 .nil,pL2.symm,rfl⟩
  | 3,_=>exact ⟨n3,false,[(.nil,gh)],L3,[.ref f3],rfl,by decide +kernel,rfl,h3,.cons hR3 .nil,pL3.symm,rfl⟩
 clear_value bk
 refine ⟨4,rfl,by decide,by decide,fun Z nZ=>?_⟩
 refine z0f walk_range nZ (by decide) (fun i us H=>KdAll K H [Z,p] us (bk.take i)) .nil (fun _ _=>trivial) (fun i us H5 H6 s6 h=>h.sb s6 (fun q hq=>.inl (by rw [List.mem_singleton.mp hq]; simp))) (fun Pv i x Hq H5 us hi s5 y hR hu fin skip=>?_) (fun us H5 s5 hZ hR hu=>?_)
 ·obtain ⟨rfl,rfl⟩:=y
  obtain ⟨n,w,rs,lk,zs,z1,z2,z3,z4,z5,z6,z7⟩:=hrow i hi
  have lkZ:lk ≠ Z:=ne_of_none z4 nZ
  refine ⟨rfl,_,rfl,_,rfl,nl,_,_,_,rfl,rfl,SqL.of (s5.keep _ _ hn9 nmn),z1,_,rfl,rfl,_,rfl,_,rfl,W,_,_,_,rfl,rfl,SqL.of (s5.keep _ _ hW9 nmn),z3,by show 3<=sizeLine; decide,fun T nT=>?_⟩
  rw [z2]
  have t6:=SB.new (ps:=[]) nT (.tup [.str n,.bl w,.ref lk])
  refine fin _ _ t6 ?_
  rw [List.take_add_one,z7]
  exact (hR.sb t6 NoLst.nil).append (.cons ⟨T,lk,zs,rfl,SqT.of upd_same,(s5.trans t6).keep _ _ z4 nmn,z5.sb (s5.trans t6) Ru.noList_enc,by simp [lkZ,z6]⟩ .nil)
 ·rw [show bk.take (Int.toNat 4)=bk from List.take_of_length_le (by rw [bkl]; decide)] at hR
  exact q Z us bk _ (sS.trans s5.nil) (hp9.sb s5) (sS.dom _ nZ) hZ hR bok bfew
abbrev N_q8:List Str:=["_law_purse_here","_law_many","_law_most","_law_names_here","_law_free","_law_found","_law_k","_law_rules","_law_turn","_law_left","_law_some"]
theorem sc_q8:FnScope N_q8 ["_law_purse_here"] (defScope s_q8):=⟨rfl,rfl,rfl,by decide +kernel,rfl,by decide +kernel,by decide +kernel⟩
theorem zjd (B:BI mg) (G_q7:Got P w K mg base "_law_draw" ["_law_purse_here","_law_many"] (1) (z13)) (G_q12:Got P w K mg base "_law_names" ["_law_purse_here","_law_many"] (2) (z3u K)) (G_q10:Got P w K mg base "_law_grove" ["_law_purse_here","_law_names_here","_law_under","_law_left"] (5) (z1g K 4)) (F:Fun K "_law_drawn" "_law_drawn" s_q8 f fd):FnOk P w K mg base CX0 (16) f fd ["_law_purse_here"] (z0s K):=by
 refine F.ok sc_q8 (fun vs H Q E h=>?_) (fun cdv A outer s H vs Q E hr h=>?_)
 ·obtain ⟨p,rfl,_⟩:=h
  rfl
 obtain ⟨p,rfl,hp,q⟩:=h
 have hun2:=hunT hr
 refine ⟨_,pss_cons (ps_set (i:=1) sc_q8.nd rfl (.inl rfl) (pe_op op_add pe_int (z00 G_q7 (hr.mono (by omega)) rfl (pa_cons (pv 0) (pa_cons pe_int pa_nil)))))
  (pss_cons (ps_set (i:=2) sc_q8.nd rfl (.inl rfl) pe_int)
  (pss_cons (ps_if (pt_cmpR op_eq (z00 G_q7 (hr.mono (by omega)) rfl (pa_cons (pv 0) (pa_cons pe_int pa_nil))) pe_int (nomark _)) (pss_cons (ps_set (i:=1) sc_q8.nd rfl (.inl rfl) pe_int)
  (pss_one (ps_set (i:=2) sc_q8.nd rfl (.inl rfl) pe_int))) pss_nil)
  (pss_cons (ps_set (i:=3) sc_q8.nd rfl (.inl rfl) (z00 G_q12 (hr.mono (by omega)) rfl (pa_cons (pv 0) (pa_cons (pv 1) pa_nil))))
  (pss_cons (ps_set (i:=4) sc_q8.nd rfl (.inl rfl) (pe_cmpR op_eq (z00 G_q7 (hr.mono (by omega)) rfl (pa_cons (pv 0) (pa_cons pe_int pa_nil))) pe_int (nomark _)))
  (pss_cons (ps_set (i:=5) sc_q8.nd rfl (.inl rfl) (pe_lst pa_nil))
  (pss_cons (ps_for PassesOwn.never rfl (pi_range1 rfl B.range (pa_cons (pe_callB call_len_seq rfl B.len PySem.boot_len (pa_cons (pv 3) pa_nil)) pa_nil)) (pg_name (i:=6) sc_q8.nd rfl (.inl rfl))
   (pss_cons (ps_set (i:=7) sc_q8.nd rfl (.inl rfl) (pe_lst pa_nil))
  (pss_cons (ps_for PassesOwn.never rfl (pi_range1 rfl B.range (pa_cons (z00 G_q7 (hr.mono (by omega)) rfl (pa_cons (pv 0) (pa_cons (pv 2) pa_nil))) pa_nil)) (pg_name (i:=8) sc_q8.nd rfl (.inl rfl))
   (pss_cons (ps_set (i:=9) sc_q8.nd rfl (.inl rfl) (pe_lst (pa_cons pe_int pa_nil)))
  (pss_cons (ps_set (i:=10) sc_q8.nd rfl (.inl rfl) (pe_ix ix_list (pe_lst (pa_cons (pe_slice sl_list (pv 3) (po_some (pe_op op_add (pv 6) pe_int)) po_none) (pa_cons (pv 3) pa_nil))) (pe_callTy call_int1 rfl B.int boot_int (pa_cons (pv 4) pa_nil)) (fun _ _=>rfl)))
  (pss_one (ps_expr (pe_bm PySem.F.plainAttrs_list PySem.F.slot_list_append PySem.F.type_list_append mt_append (pv 7) (pa_cons (pe_tup (pa_cons (z00 G_q10 (hr.mono (by omega)) rfl (pa_cons (pv 0) (pa_cons (pv 10) (pa_cons pe_int (pa_cons (pv 9) pa_nil))))) (pa_cons (z00 G_q10 (hr.mono (by omega)) rfl (pa_cons (pv 0) (pa_cons (pv 10) (pa_cons pe_int (pa_cons (pv 9) pa_nil))))) pa_nil))) pa_nil)))))))
  (pss_one (ps_expr (pe_bm PySem.F.plainAttrs_list PySem.F.slot_list_append PySem.F.type_list_append mt_append (pv 5) (pa_cons (pe_tup (pa_cons (pe_ix ix_list (pv 3) (pv 6) (fun _ _=>rfl)) (pa_cons (pe_cmpR op_eq (z00 G_q7 (hr.mono (by omega)) rfl (pa_cons (pv 0) (pa_cons pe_int pa_nil))) pe_int (nomark _)) (pa_cons (pv 7) pa_nil)))) pa_nil)))))))
  (pss_one (ps_ret (pv 5))))))))),?_⟩
 have szl:=sizeLine_eq
 refine ⟨_,rfl,p,5,rfl,hp,by decide,by decide,fun r0 H0 r00 r05 s0 hp0=>?_⟩
 obtain ⟨c0,ec0,c01,c05⟩:∃ c:Nat,1+r0=(c:Int)/\1<=c/\c<=5:=⟨(1+r0).toNat,by omega,by omega,by omega⟩
 refine ⟨_,_,rfl,rfl,?_⟩
 refine z0d ?_
 refine z0d ?_
 refine z5s (fun σ' G=>∃ (c m:Nat),σ'=[some (.ref p),some (.int (c:Int)),some (.int (m:Int)),none,none,none,none,none,none,none,none]/\1<=c/\c<=8/\1<=m/\m<=4/\SB [p] H G/\Pu G p) (fun nx hnx=>?_) (fun σ' G h=>?_)
 ·refine ifI ⟨_,rfl,p,8,rfl,hp0,by decide,by decide,fun r H1 _ _ s1 hp1=>?_⟩
  refine ⟨rfl,_,rfl,?_⟩
  cases decide (V.int r=V.int 7) with
  | true=>exact iteT (hnx _ _ ⟨8,2,rfl,by decide,by decide,by decide,by decide,s0.trans s1,hp1⟩)
  | false=>exact iteF (hnx _ _ ⟨c0,4,by rw [<- ec0]; rfl,c01,by omega,by decide,by decide,s0.trans s1,hp1⟩)
 obtain ⟨c,m,rfl,c1,c8,m1,m4,s1,hp1⟩:=h
 refine ⟨_,rfl,_,rfl,p,c,rfl,hp1,c1,by omega,fun nl ks H2 s2 hp2 nnl hn kl kok knd=>?_⟩
 refine z0d ?_
 refine ⟨_,rfl,p,3,rfl,hp2,by decide,by decide,fun r3 H3 r30 r33 s3 hp3=>?_⟩
 refine ⟨rfl,?_⟩
 generalize decide (V.int r3=V.int 2)=fr
 have np:nl ≠ p:=fun z=>by have:=Pu.some hp1 p (by simp); rw [<- z] at this; exact this nnl
 have pnl:nl ∉ [p]:=by simpa using np
 have hn3:=s3.keep _ _ hn pnl
 refine ⟨by show 0<=sizeLine; decide,fun K0 nK0=>?_⟩
 have t4:=SB.new (ps:=[]) nK0 (.lst [])
 have hK4:upd H3 K0 (.lst []) K0=some (.lst []):=upd_same
 have hp4:=hp3.sb t4
 have hn4:=t4.keep _ _ hn3 nmn
 have pK:=hp3.ne nK0
 have nK:nl ≠ K0:=ne_of_none hn3 nK0
 have s04:SB [p] H (upd H3 K0 (.lst [])):=((s1.trans s2).trans s3).trans t4.nil
 have nK0H:H K0=none:=((s1.trans s2).trans s3).dom _ nK0
 generalize upd H3 K0 (.lst [])=H4 at t4 hK4 hp4 hn4 s04
 refine z0d ?_
 refine ⟨_,rfl,nl,_,rfl,.inl (SqL.of hn4),_,rfl,by rw [List.length_map]; omega,by rw [List.length_map]; omega,?_⟩
 rw [List.length_map,Int.toNat_natCast]
 refine for_it walk_range (fun i σ G=>SB [K0,p] H4 G/\Pu G p/\∃ (xs:List V) (b:Bk) (o5 o6 o7 o8 o9:Option V),σ=[some (.ref p),some (.int (c:Int)),some (.int (m:Int)),some (.ref nl),some (.bl fr),some (.ref K0),o5,o6,o7,o8,o9]/\G K0=some (.lst xs)/\KdAll K G [K0,p] xs b/\b.names=ks.take i/\(∀ k ∈ b,KdOk ks k)/\Few2 b)
  ⟨SB.refl,hp4,[],[],_,_,_,_,_,rfl,hK4,.nil,rfl,by simp,fun k hk=>nomatch hk⟩ (fun _ _ _ _ _=>trivial) (fun i x σ Hq G hi h y=>?_) (fun σ G h=>?_)
 ·obtain ⟨s5,hp5,xs,b,o5,o6,o7,o8,o9,rfl,hK5,ha5,bn,bo,bf⟩:=h
  obtain ⟨rfl,rfl⟩:=y
  have hic:i < ks.length:=hi
  have enm:ks[i]?=some ks[i]:=List.getElem?_eq_getElem hic
  generalize ks[i]=nm at enm
  have nmk:nm ∈ ks:=List.mem_of_getElem? enm
  have npK:nl ∉ [K0,p]:=by simp [np,nK]
  refine ⟨by show 0<=sizeLine; decide,fun RL nRL=>?_⟩
  have t6:=SB.new (ps:=[]) nRL (.lst [])
  have hR6:upd G RL (.lst []) RL=some (.lst []):=upd_same
  have hp6:=hp5.sb t6
  have hK6:=t6.keep _ _ hK5 nmn
  have ha6:=ha5.sb t6 NoLst.nil
  have Rp:RL ≠ p:=fun z=>hp5.ne nRL z.symm
  have RK:RL ≠ K0:=fun z=>ne_of_none hK5 nRL z.symm
  have s6:=s5.trans (t6.nil (ps:=[K0,p]))
  have nRL4:H4 RL=none:=s5.dom _ nRL
  have nlR:nl ≠ RL:=fun z=>by rw [z,nRL4] at hn4; cases hn4
  have hn6:=s6.keep _ _ hn4 npK
  generalize upd G RL (.lst [])=H6 at t6 hR6 hp6 hK6 ha6 s6 hn6
  refine z0d ?_
  refine ⟨_,rfl,_,rfl,p,(m:Int),rfl,hp6,by omega,by omega,fun r7 H7 r70 r74 s7 hp7=>?_⟩
  obtain ⟨tn,rfl⟩:∃ x:Nat,r7=(x:Int):=⟨r7.toNat,by omega⟩
  have hR7:=s7.keep _ _ hR6 (by simpa using Rp)
  have hn7:=s7.keep _ _ hn6 pnl
  have hK7:=s7.keep _ _ hK6 (by simpa using fun z:K0=p=>pK z.symm)
  have ha7:=ha6.sb s7 (fun q hq=>.inl (by rw [List.mem_singleton.mp hq]; simp))
  have s67:SB [K0,p] H4 H7:=s6.trans (s7.mono (by simp))
  refine ⟨(tn:Int),rfl,by omega,by omega,?_⟩
  rw [Int.toNat_natCast]
  refine for_it walk_range (fun j σ H8=>SB [RL,p] H7 H8/\Pu H8 p/\∃ (us:List V) (rs:List Ru) (o7 o8 o9:Option V),σ=[some (.ref p),some (.int (c:Int)),some (.int (m:Int)),some (.ref nl),some (.bl fr),some (.ref K0),some (.int (0+(i:Int))),some (.ref RL),o7,o8,o9]/\H8 RL=some (.lst us)/\Bears K H8 Ru.enc us rs/\rs.length=j/\∀ r ∈ rs,RuOk r/\(∀ q ∈ Ru.within r,q.1.1 ∈ ks)/\r.1.parts+r.2.parts<=2)
   ⟨SB.refl,hp7,[],[],_,_,_,rfl,hR7,.nil,rfl,by simp⟩ (fun _ _ _ _ _=>trivial) (fun j x σ Hq H8 hj h8 y=>?_) (fun σ H8 h8=>?_)
  ·obtain ⟨s8,hp8,us,rs,o7,o8,o9,rfl,hR8,hb8,rl,hrs⟩:=h8
   obtain ⟨rfl,rfl⟩:=y
   have hn8:=s8.keep _ _ hn7 (by simp [np,nlR])
   refine ⟨by show 1<=sizeLine; decide,fun LL nLL=>?_⟩
   have t9:=SB.new (ps:=[]) nLL (.lst [.int 2])
   have hL9:upd H8 LL (.lst [.int 2]) LL=some (.lst [.int 2]):=upd_same
   have hp9:=hp8.sb t9
   have hn9:=t9.keep _ _ hn8 nmn
   have hR9:=t9.keep _ _ hR8 nmn
   have hb9:=hb8.sb t9 Ru.noList_enc
   have Lp:LL ≠ p:=fun z=>hp8.ne nLL z.symm
   have LR:LL ≠ RL:=fun z=>ne_of_none hR8 nLL z.symm
   have Ln:LL ≠ nl:=fun z=>ne_of_none hn8 nLL z.symm
   generalize upd H8 LL (.lst [.int 2])=H9 at t9 hL9 hp9 hn9 hR9 hb9
   refine z0d ?_
   refine ⟨_,rfl,_,rfl,_,_,rfl,rfl,_,rfl,nl,_,rfl,SqL.of hn9,fun P1 nP1=>?_⟩
   have e1:cutV (ks.map V.str) (some ((0+(i:Int))+1)) none=(ks.drop (i+1)).map V.str:=by
    rw [<- zcu,Int.zero_add]; rfl
   rw [e1]
   have t10:=SB.new (ps:=[]) nP1 (.lst ((ks.drop (i+1)).map V.str))
   have hP10:upd H9 P1 (.lst ((ks.drop (i+1)).map V.str)) P1=some (.lst ((ks.drop (i+1)).map V.str)):=upd_same
   refine ⟨_,rfl,by show 2<=sizeLine; decide,fun la nla=>?_⟩
   have t11:=SB.new (ps:=[]) nla (.lst [.ref P1,.ref nl])
   have hla11:upd (upd H9 P1 (.lst ((ks.drop (i+1)).map V.str))) la (.lst [.ref P1,.ref nl]) la=some (.lst [.ref P1,.ref nl]):=upd_same
   have t911:=t10.trans t11
   have hP11:=t11.keep _ _ hP10 nmn
   have hL11:=t911.keep _ _ hL9 nmn
   have hp11:=hp9.sb t911
   have hn11:=t911.keep _ _ hn9 nmn
   have hR11:=t911.keep _ _ hR9 nmn
   have hb11:=hb9.sb t911 Ru.noList_enc
   have P1p:P1 ≠ p:=fun z=>hp9.ne nP1 z.symm
   have P1L:P1 ≠ LL:=fun z=>ne_of_none hL9 nP1 z.symm
   have P1R:P1 ≠ RL:=fun z=>ne_of_none hR9 nP1 z.symm
   have s811:=t9.trans t911
   generalize upd (upd H9 P1 (.lst ((ks.drop (i+1)).map V.str))) la (.lst [.ref P1,.ref nl])=H11 at t11 hla11 t911 hP11 hL11 hp11 hn11 hR11 hb11 s811
   obtain ⟨sl,ss,hz,hsl,slp,slL,ssl,ssk⟩:∃ (sl:Addr) (ss:List Str),atI [V.ref P1,V.ref nl] (if fr=true then 1 else 0)=some (.ref sl)/\H11 sl=some (.lst (ss.map V.str))/\sl ≠ p/\sl ≠ LL/\ss.length<=8/\∀ z ∈ ss,z ∈ ks:=by
    cases fr with
    | true=>exact ⟨nl,ks,rfl,hn11,np,fun z=>Ln z.symm,by omega,fun _ h=>h⟩
    | false=>exact ⟨P1,ks.drop (i+1),rfl,hP11,P1p,P1L,by rw [List.length_drop]; omega,fun z hz=>List.mem_of_mem_drop hz⟩
   refine ⟨_,rfl,.inr ⟨_,rfl,?_⟩⟩
   refine ⟨la,_,_,_,rfl,rfl,SqL.of hla11,hz,?_⟩
   have sok:∀ z ∈ ss,z01 z:=fun z hz=>kok z (ssk z hz)
   refine ⟨_,rfl,.inl ⟨rfl,_,SqL.of hR11⟩,_,rfl,_,rfl,_,rfl,p,sl,LL,ss,3,2,rfl,hp11,⟨hsl,slp,slL,ssl,sok⟩,⟨hL11,Lp⟩,by decide,by decide,by decide,by decide,fun v1 g1 d1 H12 s12 hp12 hL12 hg1 ok1 pt1 dp1 nm1=>?_⟩
   have hsl12:=s12.keep _ _ hsl (by simp [slp,slL])
   refine ⟨_,rfl,_,rfl,_,rfl,p,sl,LL,ss,3,d1,rfl,hp12,⟨hsl12,slp,slL,ssl,sok⟩,⟨hL12,Lp⟩,by decide,by decide,by decide,by omega,fun v2 g2 d2 H13 s13 hp13 hL13 hg2 ok2 pt2 dp2 nm2=>?_⟩
   have s1113:=s12.trans s13
   have RLL:RL ≠ LL:=fun z=>LR z.symm
   have hR13:=s1113.keep _ _ hR11 (by simp [Rp,RLL])
   have hb13:=hb11.sb s1113 Ru.noList_enc
   refine ⟨by show 2<=sizeLine; decide,fun T nT=>?_⟩
   have t14:=SB.new (ps:=[]) nT (.tup [v1,v2])
   have hR14:=t14.keep _ _ hR13 nmn
   have hb14:=hb13.sb t14 Ru.noList_enc
   have hT14:SqT K (upd H13 T (.tup [v1,v2])) T [v1,v2]:=SqT.of upd_same
   have hp14:=hp13.sb t14
   have hg1':=GA.sb (GA.sb hg1 s13) t14
   have hg2':=GA.sb hg2 t14
   have s814:SB [p,LL] H8 (upd H13 T (.tup [v1,v2])):=s811.nil.trans (s1113.trans t14.nil)
   generalize upd H13 T (.tup [v1,v2])=H14 at t14 hR14 hb14 hT14 hp14 hg1' hg2' s814
   have ul:=hb14.length
   refine ⟨RL,_,_,rfl,rfl,hR14,by omega,?_⟩
   have t15:=SB.set (ps:=[RL]) hR14 (by simp) (.lst (us++[.ref T]))
   have s814':SB [p] H8 H14:=(s814.mono (qs:=[LL,p]) (by simp)).drop nLL
   refine ⟨(s8.trans (s814'.mono (by simp))).trans (t15.mono (by simp)),hp14.keep t15 (by simpa using fun z:p=RL=>Rp z.symm),us++[.ref T],rs++[(g1,g2)],_,_,_,rfl,upd_same,?_,by simp [rl],fun r hr=>?_⟩
   ·exact (hb14.sb t15 Ru.noList_enc).append (.cons (.tup (t15.sqT hT14) (.cons (GA.sb hg1' t15) (.cons (GA.sb hg2' t15) .nil))) .nil)
   ·rcases List.mem_append.mp hr with hr | hr
    ·exact hrs r hr
    ·rw [List.mem_singleton.mp hr]
     refine ⟨⟨ok1,ok2,by show g1.parts+g2.parts<=4; omega⟩,fun q hq=>?_,by show g1.parts+g2.parts<=2; omega⟩
     rcases List.mem_append.mp hq with hq | hq
     ·exact ssk _ (nm1 q hq)
     ·exact ssk _ (nm2 q hq)
  obtain ⟨s8,hp8,us,rs,o7,o8,o9,rfl,hR8,hb8,rl,hrs⟩:=h8
  have Kp:K0 ≠ p:=fun z=>pK z.symm
  have KR:K0 ≠ RL:=fun z=>RK z.symm
  have hn8:=s8.keep _ _ hn7 (by simp [np,nlR])
  have hK8:=s8.keep _ _ hK7 (by simp [Kp,KR])
  have sG8:SB [p] G H8:=(((t6.nil (ps:=[RL,p])).trans (s7.mono (by simp))).trans s8).drop nRL
  have nls:∀ {H':Hp},NoLst H' [K0,p] [p]:=fun q hq=>.inl (by rw [List.mem_singleton.mp hq]; simp)
  have ha8:=ha5.sb sG8 nls
  have hz:atI (ks.map V.str) (0+(i:Int))=some (.str nm):=by
   rw [Int.zero_add]; exact atI_nat (by rw [List.getElem?_map,enm]; rfl)
  have bl:b.length<=i:=by
   have:(Bk.names b).length=(ks.take i).length:=by rw [bn]
   rw [List.length_map,List.length_take] at this
   omega
  have xl:=ha8.length
  refine ⟨_,rfl,.inl ⟨rfl,_,SqL.of hK8⟩,_,rfl,_,rfl,nl,_,_,_,rfl,rfl,SqL.of hn8,hz,_,rfl,p,2,rfl,hp8,by decide,by decide,fun r9 H9 _ _ s9 hp9=>?_⟩
  refine ⟨rfl,_,rfl,by show 3<=sizeLine; decide,fun T nT=>?_⟩
  generalize decide (V.int r9=V.int 1)=wd
  have t10:=SB.new (ps:=[]) nT (.tup [.str nm,.bl wd,.ref RL])
  have s910:=s9.trans (t10.nil (ps:=[p]))
  have hT10:SqT K (upd H9 T (.tup [.str nm,.bl wd,.ref RL])) T [.str nm,.bl wd,.ref RL]:=SqT.of upd_same
  have hK10:=s910.keep _ _ hK8 (by simpa using Kp)
  have hR10:=s910.keep _ _ hR8 (by simpa using Rp)
  have hb10:=hb8.sb s910 Ru.noList_enc
  have ha10:=ha8.sb s910 nls
  have hp10:=hp9.sb t10
  have sG10:=sG8.trans s910
  generalize upd H9 T (.tup [.str nm,.bl wd,.ref RL])=H10 at t10 s910 hT10 hK10 hR10 hb10 ha10 hp10 sG10
  refine ⟨K0,_,_,rfl,rfl,hK10,by omega,?_⟩
  have t11:=SB.set (ps:=[K0]) hK10 (by simp) (.lst (xs++[.ref T]))
  refine ⟨(s5.trans (sG10.mono (by simp))).trans (t11.mono (by simp)),hp10.keep t11 (by simpa using pK),xs++[.ref T],b++[⟨nm,wd,rs⟩],_,_,_,_,_,rfl,upd_same,?_,?_,fun k hk=>?_,fun k hk=>?_⟩
  ·exact (ha10.sb t11 (fun q hq=>.inl (by rw [List.mem_singleton.mp hq]; simp))).append (.cons ⟨T,RL,us,rfl,t11.sqT hT10,t11.keep _ _ hR10 (by simpa using RK),hb10.sb t11 Ru.noList_enc,by simp [RK,Rp]⟩ .nil)
  ·rw [Bk.names,List.map_append,List.take_add_one,enm]
   show Bk.names b++[nm]=_
   rw [bn]; rfl
  ·rcases List.mem_append.mp hk with hk | hk
   ·exact bo k hk
   ·rw [List.mem_singleton.mp hk]
    exact ⟨kok nm nmk,by show rs.length<=4; omega,fun r hr=>⟨(hrs r hr).1,(hrs r hr).2.1⟩⟩
  ·rcases List.mem_append.mp hk with hk | hk
   ·exact bf k hk
   ·rw [List.mem_singleton.mp hk]
    exact ⟨by show rs.length<=3; omega,fun r hr=>(hrs r hr).2.2⟩
 ·obtain ⟨s5,hp5,xs,b,o5,o6,o7,o8,o9,rfl,hK5,ha5,bn,bo,bf⟩:=h
  rw [List.take_length] at bn
  have ok:b.Ok:=Bk.Ok.of_perm (by omega) (by omega) knd (by rw [bn]) bo
  exact ⟨_,rfl,q K0 xs b _ (((s04.mono (by simp)).trans s5:SB [K0,p] H G).drop nK0H) hp5 nK0H hK5 ha5 ok bf⟩
abbrev zj0:List Str:=["_law_purse_here","_law_found","_law_put"]
theorem sc_q11:FnScope zj0 ["_law_purse_here"] (defScope z56):=⟨rfl,rfl,rfl,by decide +kernel,rfl,by decide +kernel,by decide +kernel⟩
theorem zh1 (B:BI mg) (G_q7:Got P w K mg base "_law_draw" ["_law_purse_here","_law_many"] (1) (z13)) (G_q14:Got P w K mg base "_law_planted" ["_law_purse_here"] (6) (z0s K)) (G_q8:Got P w K mg base "_law_drawn" ["_law_purse_here"] (16) (z0s K)) (F:Fun K "_law_kinds" "_law_kinds" z56 f fd):FnOk P w K mg base CX0 (18) f fd ["_law_purse_here"] (z0s K):=by
 refine F.ok sc_q11 (fun vs H Q E h=>?_) (fun cdv A outer s H vs Q E hr h=>?_)
 ·obtain ⟨p,rfl,_⟩:=h
  rfl
 obtain ⟨p,rfl,hp,q⟩:=h
 have hun2:=hunT hr
 refine ⟨_,pss_cons (ps_if (pt_cmpR op_eq (z00 G_q7 (hr.mono (by omega)) rfl (pa_cons (pv 0) (pa_cons pe_int pa_nil))) pe_int (nomark _)) (pss_one (ps_set (i:=1) sc_q11.nd rfl (.inl rfl) (z00 G_q14 (hr.mono (by omega)) rfl (pa_cons (pv 0) pa_nil)))) (pss_one (ps_set (i:=1) sc_q11.nd rfl (.inl rfl) (z00 G_q8 (hr.mono (by omega)) rfl (pa_cons (pv 0) pa_nil)))))
  (pss_cons (ps_set (i:=2) sc_q11.nd rfl (.inl rfl) (pe_lst pa_nil))
  (pss_cons (ps_while PassesOwn.never (pt_cmpR (op_neD (by show A.units+3+64 < cLine; omega)) (pv 1) (pe_lst pa_nil) (nomark _)) (pss_one (ps_expr (pe_bm PySem.F.plainAttrs_list PySem.F.slot_list_append PySem.F.type_list_append mt_append (pv 2) (pa_cons (pe_bm PySem.F.plainAttrs_list PySem.F.slot_list_pop PySem.F.type_list_pop mt_popAt (pv 1) (pa_cons (z00 G_q7 (hr.mono (by omega)) rfl (pa_cons (pv 0) (pa_cons (pe_callB call_len_seq rfl B.len PySem.boot_len (pa_cons (pv 1) pa_nil)) pa_nil))) pa_nil)) pa_nil)))))
  (pss_one (ps_ret (pv 2))))),?_⟩
 have szl:=sizeLine_eq
 refine z5s (fun σ' G=>∃ (K0:Addr) (xs:List V) (b:Bk),σ'=[some (.ref p),some (.ref K0),none]/\SB [p] H G/\Pu G p/\H K0=none/\G K0=some (.lst xs)/\KdAll K G [K0,p] xs b/\b.Ok/\Few2 b) (fun nx hnx=>?_) (fun σ' G h=>?_)
 ·refine ifI ⟨_,rfl,p,6,rfl,hp,by decide,by decide,fun r H1 _ _ s1 hp1=>?_⟩
  refine ⟨rfl,_,rfl,?_⟩
  cases decide (V.int r=V.int 5) with
  | true=>exact iteT ⟨_,rfl,p,rfl,hp1,fun L xs b H2 s2 hp2 nL hL ha ok bf=>hnx _ _ ⟨L,xs,b,rfl,s1.trans s2,hp2,s1.dom _ nL,hL,ha,ok,bf⟩⟩
  | false=>exact iteF ⟨_,rfl,p,rfl,hp1,fun L xs b H2 s2 hp2 nL hL ha ok bf=>hnx _ _ ⟨L,xs,b,rfl,s1.trans s2,hp2,s1.dom _ nL,hL,ha,ok,bf⟩⟩
 obtain ⟨K0,xs,b,rfl,s5,hp5,nK0H,hK5,ha5,bok,bf⟩:=h
 have pK:p ≠ K0:=fun z=>Pu.some hp p (by simp) (by rw [z]; exact nK0H)
 have b1:=bok.pos
 have bl8:=bok.len
 refine ⟨by show 0<=sizeLine; decide,fun D nD=>?_⟩
 have t6:=SB.new (ps:=[]) nD (.lst [])
 have hD6:upd G D (.lst []) D=some (.lst []):=upd_same
 have hp6:=hp5.sb t6
 have hK6:=t6.keep _ _ hK5 nmn
 have ha6:=(ha5.more nD).sb t6 NoLst.nil
 have pD:p ≠ D:=hp5.ne nD
 have KD:K0 ≠ D:=ne_of_none hK5 nD
 have s06:SB [D,K0,p] H (upd G D (.lst [])):=(s5.mono (by simp)).trans t6.nil
 have nDH:H D=none:=s5.dom _ nD
 generalize upd G D (.lst [])=H6 at t6 hD6 hp6 hK6 ha6 s06
 refine z0d ?_
 have Kp:K0 ≠ p:=fun z=>pK z.symm
 let Pv:List Kd->L2.St->Hp->Prop:=fun b2 σ H2=>SB [D,K0,p] H H2/\Pu H2 p/\∃ (zs ys:List V) (b1:Bk),σ=[some (.ref p),some (.ref K0),some (.ref D)]/\H2 K0=some (.lst zs)/\H2 D=some (.lst ys)/\KdAll K H2 [D,K0,p] zs b2/\KdAll K H2 [D,K0,p] ys b1/\(b1++b2).Perm b
 have nlA:∀ {H':Hp} {q:Addr},q ∈ [D,K0,p]->NoLst H' [D,K0,p] [q]:=fun hq q' hq'=>.inl (by rw [List.mem_singleton.mp hq']; exact hq)
 refine z9b (K:=K) (enc:=Kd.dat) (D:=K0) List.length Pv (ws0:=b) ⟨s06,hp6,xs,[],[],rfl,hK6,hD6,ha6,.nil,List.Perm.refl _⟩ (fun b2 σ H2 h2=>?_) (fun b2 σ H2 h2=>?_) (fun b2 σ H2 z h2 hz=>?_) (fun b2 σ H2 hne h2=>?_) (fun σ H2 h2=>?_)
 ·obtain ⟨_,_,zs,ys,b1,rfl,hz,_,ha,_⟩:=h2
  exact ⟨rfl,_,hz,ha.dp⟩
 ·obtain ⟨_,_,zs,ys,b1,_,_,_,_,_,pm⟩:=h2
  exact z99 fun k hk=>by
   have:=bok.kd k (pm.mem_iff.mp (mar _ hk))
   exact ⟨this.1,fun r hr=>(this.2.2 r hr).1⟩
 ·obtain ⟨s2,hp2,zs,ys,b1,rfl,hz2,hy2,ha2,hb2,pm⟩:=h2
  have t:=SB.new (ps:=[]) hz (.lst [])
  exact ⟨s2.trans t.nil,hp2.sb t,zs,ys,b1,rfl,t.keep _ _ hz2 nmn,t.keep _ _ hy2 nmn,ha2.sb t NoLst.nil,hb2.sb t NoLst.nil,pm⟩
 ·obtain ⟨s2,hp2,zs,ys,b1,rfl,hz2,hy2,ha2,hb2,pm⟩:=h2
  have pl:=pm.length_eq
  rw [List.length_append] at pl
  have lpos:0 < b2.length:=List.length_pos_iff.mpr hne
  have zl:=ha2.length
  have yl:=hb2.length
  refine ⟨_,rfl,.inl ⟨rfl,_,SqL.of hy2⟩,_,rfl,.inl ⟨rfl,_,SqL.of hz2⟩,_,rfl,_,rfl,K0,_,rfl,.inl (SqL.of hz2),p,_,rfl,hp2,by omega,by omega,fun r H3 r0 rm s3 hp3=>?_⟩
  obtain ⟨u,rfl⟩:∃ u:Nat,r=(u:Int):=⟨r.toNat,by omega⟩
  have hu:u < zs.length:=by omega
  have hz3:=s3.keep _ _ hz2 (by simpa using Kp)
  have hy3:=s3.keep _ _ hy2 (by simpa using fun z:D=p=>pD z.symm)
  have ha3:=ha2.sb s3 (nlA (by simp))
  have hb3:=hb2.sb s3 (nlA (by simp))
  have eu:zs[u]?=some zs[u]:=List.getElem?_eq_getElem hu
  obtain ⟨k,ek,hk⟩:=ha3.get eu
  refine ⟨K0,_,_,u,zs[u],rfl,rfl,hz3,by omega,by omega,by rw [PySem.seqIndex_of (by omega) (by omega),Int.toNat_natCast],eu,?_⟩
  have t4:=SB.set (ps:=[K0]) hz3 (by simp) (.lst (zs.eraseIdx u))
  have hz4:upd H3 K0 (.lst (zs.eraseIdx u)) K0=some (.lst (zs.eraseIdx u)):=upd_same
  have hy4:=t4.keep _ _ hy3 (by simpa using fun z:D=K0=>KD z.symm)
  have hp4:=hp3.keep t4 (by simpa using pK)
  have ha4:=(ha3.erase u).sb t4 (nlA (by simp))
  have hb4:=hb3.sb t4 (nlA (by simp))
  have hk4:=hk.sb t4 (nlA (by simp))
  have s4:SB [D,K0,p] H _:=(s2.trans (s3.mono (by simp))).trans (t4.mono (by simp))
  generalize zs[u]=zu at hk4
  generalize upd H3 K0 (.lst (zs.eraseIdx u))=H4' at t4 hz4 hy4 hp4 ha4 hb4 hk4 s4
  refine ⟨D,_,_,rfl,rfl,hy4,by omega,?_⟩
  have t5:=SB.set (ps:=[D]) hy4 (by simp) (.lst (ys++[zu]))
  refine ⟨b2.eraseIdx u,?_,s4.trans (t5.mono (by simp)),hp4.keep t5 (by simpa using pD),zs.eraseIdx u,ys++[zu],b1++[k],rfl,t5.keep _ _ hz4 (by simpa using KD),upd_same,ha4.sb t5 (nlA (by simp)),(hb4.sb t5 (nlA (by simp))).append (.cons (hk4.sb t5 (nlA (by simp))) .nil),?_⟩
  ·rw [List.length_eraseIdx,if_pos (by omega)]
   omega
  ·rw [List.append_assoc]
   exact (List.Perm.append_left b1 (z6m ek)).trans pm
 ·obtain ⟨s2,hp2,zs,ys,b1,rfl,hz2,hy2,ha2,hb2,pm⟩:=h2
  rw [List.append_nil] at pm
  have pn:b1.names.Perm b.names:=pm.map _
  have ok:b1.Ok:=Bk.Ok.of_perm (by rw [List.length_map]; omega) (by rw [List.length_map]; omega) bok.nd pn fun k hk=>bok.kd k (pm.mem_iff.mp hk)
  exact ⟨_,rfl,q D ys b1 _ ((s2.drop nDH).drop nK0H) hp2 nDH hy2 (hb2.less (by simp)) ok fun k hk=>bf k (pm.mem_iff.mp hk)⟩
abbrev zjp:List Str:=["_law_book","_law_kind","e"]
theorem sc_q17:FnScope zjp ["_law_book","_law_kind"] (defScope z5g):=⟨rfl,rfl,rfl,by decide +kernel,rfl,by decide +kernel,by decide +kernel⟩
theorem zgp {C_Book:Addr} {c:Str->Addr} (B:BI mg) (T:ErrsM K mg c eC eN eK) (G_q57:GotX P w K mg base "sort_needed" ["book"] (75) (z35 K C_Book (c "NoKind") (c "Endless"))) (F:Fun K "_law_refused" "_law_refused" z5g f fd):FnOk P w K mg base CX0 (76) f fd ["_law_book","_law_kind"] (z7c K C_Book):=by
 refine F.ok sc_q17 (fun vs H Q E h=>?_) (fun cdv A outer s H vs Q E hr h=>?_)
 ·obtain ⟨v,b,ρ,n,r,rfl,_⟩:=h
  rfl
 obtain ⟨v,b,ρ,n,r,rfl,hv,ok,ow,hss,q⟩:=h
 have hun2:=hunT hr
 refine ⟨_,pss_cons (ps_try_as (i:=2) (tb:=fun W=>tDrop (tCallS (z35 K C_Book (c "NoKind") (c "Endless")) (WE W) (tCons (tVar 0) tNil))) (ts:=fun a cls d=>(tSeq (tIfS (tB (tCB (z8j K a cls d) (tCons (tVar 2) (tCons (tTup (tCons (tC (.ref (c "NoLadder"))) (tCons (tC (.ref (c "NoRest"))) (tCons (tC (.ref (c "NoGrove"))) (tCons (tC (.ref (c "NoPlace"))) (tCons (tC (.ref (c "NoBook"))) (tCons (tC (.ref (c "NoKind"))) (tCons (tC (.ref (c "NoRule"))) (tCons (tC (.ref (c "NoNumber"))) (tCons (tC (.ref (c "TooGreat"))) (tCons (tC (.ref (c "NoRise"))) tNil))))))))))) tNil)))) (tRet (tC (.bl false))) tNext) (tSeq (tIfS (tB (tCB (z8j K a cls d) (tCons (tVar 2) (tCons (tTup (tCons (tC (.ref (c "NoFall"))) (tCons (tC (.ref (c "NotEndless"))) (tCons (tC (.ref (c "NoWorths"))) (tCons (tC (.ref (c "NoDrop"))) (tCons (tC (.ref (c "NoReach"))) (tCons (tC (.ref (c "TooLong"))) (tCons (tC (.ref (c "NoRow"))) (tCons (tC (.ref (c "NoName"))) tNil))))))))) tNil)))) (tRet (tC (.bl false))) tNext) (tRet (tAndV (tCB (zaf K a cls d) (tCons (tVar 2) (tCons (tC (.ref (c "Endless"))) tNil))) (tAndV (tCB (zaf K a cls d) (tCons (tVar 2) (tCons (tC (.ty "ValueError")) tNil))) (tOp rEq (tXfg K a cls d "kind" (tVar 2)) (tVar 1)))))))) (Wout:=fun _ _ _ _=>False) rfl rfl sc_q17.nd rfl rfl ⟨rfl,by decide,Or.inl T.FellError⟩ takes0
   (fun W pn xe tk _=>pss_one (ps_expr (by exact (z34 G_q57 (hr.mono (by omega)) rfl tk (pa_cons (pv 0) pa_nil)))))
   (fun a oe cls d pn hz hf=>by exact (pss_cons (ps_if (pt_val (pe_callB (z6s (.head _) hz hf) rfl B.isinstance boot_isinstance (pa_cons (pv 2) (pa_cons (pe_tup (pa_cons (pe_glob (v:=.ref (c "NoLadder")) rfl (T.glo "NoLadder" (.head _)) rfl) (pa_cons (pe_glob (v:=.ref (c "NoRest")) rfl (T.glo "NoRest" (.tail _ (.head _))) rfl) (pa_cons (pe_glob (v:=.ref (c "NoGrove")) rfl (T.glo "NoGrove" (.tail _ (.tail _ (.head _)))) rfl) (pa_cons (pe_glob (v:=.ref (c "NoPlace")) rfl (T.glo "NoPlace" (.tail _ (.tail _ (.tail _ (.head _))))) rfl) (pa_cons (pe_glob (v:=.ref (c "NoBook")) rfl (T.glo "NoBook" (.tail _ (.tail _ (.tail _ (.tail _ (.head _)))))) rfl) (pa_cons (pe_glob (v:=.ref (c "NoKind")) rfl (T.glo "NoKind" (.tail _ (.tail _ (.tail _ (.tail _ (.tail _ (.head _))))))) rfl) (pa_cons (pe_glob (v:=.ref (c "NoRule")) rfl (T.glo "NoRule" (.tail _ (.tail _ (.tail _ (.tail _ (.tail _ (.tail _ (.head _)))))))) rfl) (pa_cons (pe_glob (v:=.ref (c "NoNumber")) rfl (T.glo "NoNumber" (.tail _ (.tail _ (.tail _ (.tail _ (.tail _ (.tail _ (.tail _ (.head _))))))))) rfl) (pa_cons (pe_glob (v:=.ref (c "TooGreat")) rfl (T.glo "TooGreat" (.tail _ (.tail _ (.tail _ (.tail _ (.tail _ (.tail _ (.tail _ (.tail _ (.head _)))))))))) rfl) (pa_cons (pe_glob (v:=.ref (c "NoRise")) rfl (T.glo "NoRise" (.tail _ (.tail _ (.tail _ (.tail _ (.tail _ (.tail _ (.tail _ (.tail _ (.tail _ (.head _))))))))))) rfl) pa_nil))))))))))) pa_nil)))) (pss_one (ps_ret pe_bl)) pss_nil)
  (pss_cons (ps_if (pt_val (pe_callB (z6s (.head _) hz hf) rfl B.isinstance boot_isinstance (pa_cons (pv 2) (pa_cons (pe_tup (pa_cons (pe_glob (v:=.ref (c "NoFall")) rfl (T.glo "NoFall" (.tail _ (.tail _ (.tail _ (.tail _ (.tail _ (.tail _ (.tail _ (.tail _ (.tail _ (.tail _ (.head _)))))))))))) rfl) (pa_cons (pe_glob (v:=.ref (c "NotEndless")) rfl (T.glo "NotEndless" (.tail _ (.tail _ (.tail _ (.tail _ (.tail _ (.tail _ (.tail _ (.tail _ (.tail _ (.tail _ (.tail _ (.tail _ (.head _)))))))))))))) rfl) (pa_cons (pe_glob (v:=.ref (c "NoWorths")) rfl (T.glo "NoWorths" (.tail _ (.tail _ (.tail _ (.tail _ (.tail _ (.tail _ (.tail _ (.tail _ (.tail _ (.tail _ (.tail _ (.tail _ (.tail _ (.head _))))))))))))))) rfl) (pa_cons (pe_glob (v:=.ref (c "NoDrop")) rfl (T.glo "NoDrop" (.tail _ (.tail _ (.tail _ (.tail _ (.tail _ (.tail _ (.tail _ (.tail _ (.tail _ (.tail _ (.tail _ (.tail _ (.tail _ (.tail _ (.head _)))))))))))))))) rfl) (pa_cons (pe_glob (v:=.ref (c "NoReach")) rfl (T.glo "NoReach" (.tail _ (.tail _ (.tail _ (.tail _ (.tail _ (.tail _ (.tail _ (.tail _ (.tail _ (.tail _ (.tail _ (.tail _ (.tail _ (.tail _ (.tail _ (.head _))))))))))))))))) rfl) (pa_cons (pe_glob (v:=.ref (c "TooLong")) rfl (T.glo "TooLong" (.tail _ (.tail _ (.tail _ (.tail _ (.tail _ (.tail _ (.tail _ (.tail _ (.tail _ (.tail _ (.tail _ (.tail _ (.tail _ (.tail _ (.tail _ (.tail _ (.head _)))))))))))))))))) rfl) (pa_cons (pe_glob (v:=.ref (c "NoRow")) rfl (T.glo "NoRow" (.tail _ (.tail _ (.tail _ (.tail _ (.tail _ (.tail _ (.tail _ (.tail _ (.tail _ (.tail _ (.tail _ (.tail _ (.tail _ (.tail _ (.tail _ (.tail _ (.tail _ (.head _))))))))))))))))))) rfl) (pa_cons (pe_glob (v:=.ref (c "NoName")) rfl (T.glo "NoName" (.tail _ (.tail _ (.tail _ (.tail _ (.tail _ (.tail _ (.tail _ (.tail _ (.tail _ (.tail _ (.tail _ (.tail _ (.tail _ (.tail _ (.tail _ (.tail _ (.tail _ (.tail _ (.head _)))))))))))))))))))) rfl) pa_nil))))))))) pa_nil)))) (pss_one (ps_ret pe_bl)) pss_nil)
  (pss_one (ps_ret (pe_and (pe_callB (z83 (.head _) hz hf) rfl B.isinstance boot_isinstance (pa_cons (pv 2) (pa_cons (pe_glob (v:=.ref (c "Endless")) rfl (T.glo "Endless" (.tail _ (.tail _ (.tail _ (.tail _ (.tail _ (.tail _ (.tail _ (.tail _ (.tail _ (.tail _ (.tail _ (.head _))))))))))))) rfl) pa_nil))) (pe_and (pe_callB (z83 (.head _) hz hf) rfl B.isinstance boot_isinstance (pa_cons (pv 2) (pa_cons (zdy (T':="ValueError") rfl T.ve rfl) pa_nil))) (pe_one (pe_cmpR op_eq (zha (.head _) hz hf (pv 2)) (pv 1) (nomark _)))))))))))
  (pss_one (ps_ret pe_bl)),?_⟩
 refine ⟨_,rfl,v,b,ρ,n::r,rfl,hv,ok,ow,hss,fun z=>(nomatch z),fun n2 r2 e d H1 s1 nd hd=>?_⟩
 cases e
 refine ⟨true,T.exm _ (.head _),fun _ x hx=>?_,fun z=>nomatch z⟩
 have hx1:ExD H1 (some d):=.inr ⟨d,_,rfl,hd⟩
 refine ⟨_,rfl,by show 10<=sizeLine; decide,fun t1 ht1=>?_⟩
 refine ⟨_,t1,_,_,_,rfl,T.exc _ (.head _),hx1.sb (SB.new ht1 _),rfl,upd_same,z2s ["NoLadder","NoRest","NoGrove","NoPlace","NoBook","NoKind","NoRule","NoNumber","TooGreat","NoRise"],T.no (.head _) (ms:=["NoLadder","NoRest","NoGrove","NoPlace","NoBook","NoKind","NoRule","NoNumber","TooGreat","NoRise"]) (by decide +kernel) (by decide +kernel),?_⟩
 refine ⟨_,rfl,iteF ?_⟩
 refine ⟨_,rfl,by show 8<=sizeLine; decide,fun t2 ht2=>?_⟩
 refine ⟨_,t2,_,_,_,rfl,T.exc _ (.head _),(hx1.sb (SB.new ht1 _)).sb (SB.new ht2 _),rfl,upd_same,z2s ["NoFall","NotEndless","NoWorths","NoDrop","NoReach","TooLong","NoRow","NoName"],T.no (.head _) (ms:=["NoFall","NotEndless","NoWorths","NoDrop","NoReach","TooLong","NoRow","NoName"]) (by decide +kernel) (by decide +kernel),?_⟩
 refine ⟨_,rfl,iteF ?_⟩
 have s12:=(SB.new (ps:=[]) ht1 (.tup ((["NoLadder","NoRest","NoGrove","NoPlace","NoBook","NoKind","NoRule","NoNumber","TooGreat","NoRise"]:List Str).map fun n=>V.ref (c n)))).trans (SB.new (ps:=[]) ht2 (.tup ((["NoFall","NotEndless","NoWorths","NoDrop","NoReach","TooLong","NoRow","NoName"]:List Str).map fun n=>V.ref (c n))))
 have hd3:=s12.keep _ _ hd nmn
 refine ⟨_,rfl,_,_,_,true,rfl,T.exc _ (.head _),.inr ⟨d,_,rfl,hd3⟩,rfl,fun u r=>r,T.is (.head _) (by decide +kernel),?_⟩
 refine ⟨true,rfl,iteT ?_⟩
 refine ⟨_,rfl,_,_,_,true,rfl,T.exc _ (.head _),.inr ⟨d,_,rfl,hd3⟩,rfl,fun u r=>r,T.kve _ (.head _),?_⟩
 refine ⟨true,rfl,iteT ?_⟩
 refine ⟨_,rfl,_,d,_,.str n,rfl,rfl,T.exc _ (.head _),T.nok _ (.head _),rfl,hd3,rfl,?_⟩
 refine ⟨_,rfl,rfl,?_⟩
 rw [decide_eq_true rfl]
 exact q _ (s1.trans s12)
abbrev zdj:List Str:=["_law_book","_law_kinds_here","_law_words","_law_sorts","_law_kind"]
theorem sc_q13:FnScope zdj ["_law_book","_law_kinds_here"] (defScope z3e):=⟨rfl,rfl,rfl,by decide +kernel,rfl,by decide +kernel,by decide +kernel⟩
theorem zgv {C_Book C_NoKind C_Endless:Addr} (B:BI mg) (G_q19:Got P w K mg base "_law_word" ["_law_ladder"] (1) (z45 K)) (G_q49:GotX P w K mg base "own_rank" ["book","name"] (74) (z2h K C_Book C_NoKind C_Endless)) (F:Fun K "_law_needed" "_law_needed" z3e f fd):FnOk P w K mg base CX0 (77) f fd ["_law_book","_law_kinds_here"] (z69 K C_Book):=by
 refine F.ok sc_q13 (fun vs H Q E h=>?_) (fun cdv A outer s H vs Q E hr h=>?_)
 ·obtain ⟨v,l,xs,b,ρ,rfl,_⟩:=h
  rfl
 obtain ⟨v,l,xs,b,ρ,rfl,hv,hl,ha,ok,ow,hend,q⟩:=h
 have hun2:=hunT hr
 refine ⟨_,pss_cons (ps_set (i:=2) sc_q13.nd rfl (.inr rfl) (pe_lst (pa_cons pe_str (pa_cons pe_str (pa_cons pe_str (pa_cons pe_str pa_nil))))))
  (pss_cons (ps_setLc (i:=3) (own:=[("_law_kind",4)]) (g:=(gName 4)) (tt:=tYes) (te:=(tBM K "list" (rIndex K) (tVar 2) (tCons (tCall (z45 K) [] E0 (tCons (tCall (z2h K C_Book C_NoKind C_Endless) [] E0 (tCons (tVar 0) (tCons (tOp (rIxT K) (tVar 4) (tC (.int 0))) tNil))) tNil)) tNil))) rfl sc_q13.nd rfl rfl (sw_true rfl rfl rfl (by decide +kernel)) (pi_list (pv 1)) (blkOk_by (N:=zdj) (sc:=defScope z3e) (by decide +kernel)) (fun _ _ _ _ _=>(pg_name (i:=4) sc_q13.nd rfl (.inl rfl))) (fun _ _ _ _ _=>pts_nil) (fun _ _ _ _ _=>(pe_bm PySem.F.plainAttrs_list PySem.F.slot_list_index PySem.F.type_list_index mt_index (pv 2) (pa_cons (z00 G_q19 (hr.mono (by omega)) rfl (pa_cons (z2v G_q49 (hr.mono (by omega)) rfl (pa_cons (pv 0) (pa_cons (pe_ix ix_tup (pv 4) pe_int (fun _ _=>rfl)) pa_nil))) pa_nil)) pa_nil))))
  (pss_one (ps_ret (pe_tup (pa_cons (pe_ix ix_list (pv 2) (pe_callB (cr_max rfl) rfl B.max boot_max (pa_cons (pv 3) pa_nil)) (fun _ _=>rfl)) (pa_cons (pe_ix ix_tup (pe_ix ix_list (pv 1) (pe_bm PySem.F.plainAttrs_list PySem.F.slot_list_index PySem.F.type_list_index mt_index (pv 3) (pa_cons (pe_callB (cr_max rfl) rfl B.max boot_max (pa_cons (pv 3) pa_nil)) pa_nil)) (fun _ _=>rfl)) pe_int (fun _ _=>rfl)) pa_nil)))))),?_⟩
 obtain ⟨ow,bd⟩:=ow
 have szl:=sizeLine_eq
 have b8:=ok.len
 have b1:=ok.pos
 have xl:=ha.length
 have nml:b.names.length=b.length:=List.length_map ..
 refine ⟨by show 4<=sizeLine; decide,fun W nW=>?_⟩
 have t1:=SB.new (ps:=[]) nW (.lst [.str "number",.str "pair",.str "power",.str "tower"])
 have hW1:upd H W (.lst [.str "number",.str "pair",.str "power",.str "tower"]) W=some (.lst (srtL.map V.str)):=upd_same
 generalize upd H W (.lst [.str "number",.str "pair",.str "power",.str "tower"])=H1 at t1 hW1
 refine ⟨_,rfl,l,rfl,⟨_,SqL.of (t1.keep _ _ hl nmn)⟩,fun D nD=>?_⟩
 refine z0f (walk_list (xs:=xs)) nD (by omega) (fun i us _=>us=((b.names.take i).map (nix ρ)).map V.int) rfl (fun H3 s3=>(t1.trans s3).sqL nmn (SqL.of hl)) (fun _ _ _ _ _ h=>h) (fun Pv i x Hq H3 us hi s3 y hR hu fin skip=>?_) (fun us H4 s4 hD4 hR hu=>?_)
 ·obtain ⟨rfl,ey⟩:=y
  obtain ⟨k,ek,t,lk,zs,rfl,hT,_⟩:=ha.get ey
  have en:b.names[i]?=some k.n:=by rw [List.getElem?_map,ek]; rfl
  have nb:=List.mem_of_getElem? en
  have he:=hend _ nb
  obtain ⟨p1,p2,p3⟩:=bd _ nb he
  have s03:=t1.trans s3
  obtain ⟨c1,c2,c3⟩:=z36 (Lad.sortT_in (ρ k.n))
  have hWs:H3 W=some (.lst (srtL.map V.str)):=s3.keep _ _ hW1 nmn
  refine ⟨rfl,?_⟩
  refine ⟨_,rfl,.inl ⟨rfl,_,SqL.of hWs⟩,_,rfl,_,rfl,t,_,_,_,rfl,rfl,s03.sqT hT,atI_nat (j:=0) rfl,v,b,ρ,k.n,rfl,hv.sb0 s03,ok,ow,nb,fun _ x H5 s5 hx=>?_,fun z=>absurd he z⟩
  refine ⟨x,ρ k.n,2 ^ 2000,rfl,hx,p3,by omega,by omega,fun H6 s6=>?_⟩
  have s36:=s5.trans s6
  refine ⟨W,_,_,srtI (ρ k.n).sortT,_,rfl,rfl,SqL.of (s36.keep _ _ hWs nmn),rfl,z0r _,(by rw [List.getElem?_map]; exact congrArg (Option.map V.str) c1),by simp [eqV],fun m z' hm hz=>?_,fin _ _ s36 ?_⟩
  ·rw [List.getElem?_map] at hz
   obtain ⟨s,hs,rfl⟩:=Option.map_eq_some_iff.mp hz
   have:s ≠ (ρ k.n).sortT:=fun z=>c3 m hm (by rw [hs,z])
   simp [eqV,this]
  ·rw [hR,List.take_add_one,en,List.map_append,List.map_append]; rfl
 ·rw [xl,<- nml,List.take_length] at hR
  subst hR
  have s04:=t1.trans s4
  have hW4:=s4.keep _ _ hW1 nmn
  refine z0d ?_
  refine ⟨_,rfl,_,rfl,D,_,rfl,SqL.of hD4,by rw [List.length_map]; omega,fun m hm hy=>?_⟩
  obtain ⟨n0,hn0,rfl⟩:=List.mem_map.mp hm
  have hmax:∀ x ∈ b.names,nix ρ x<=nix ρ n0:=fun x hx=>hy _ (List.mem_map.mpr ⟨x,hx,rfl⟩)
  obtain ⟨c1,c2,c3⟩:=z36 (Lad.sortT_in (ρ n0))
  refine ⟨W,_,_,_,rfl,rfl,SqL.of hW4,atI_nat (j:=srtI (ρ n0).sortT) (by rw [List.getElem?_map]; exact congrArg (Option.map V.str) c1),?_⟩
  refine ⟨_,rfl,_,rfl,.inl ⟨rfl,_,SqL.of hD4⟩,_,rfl,D,_,rfl,SqL.of hD4,by rw [List.length_map]; omega,fun m2 hm2 hy2=>?_⟩
  have em:m2=nix ρ n0:=by
   have h1:=hy m2 hm2
   have h2:=hy2 _ hm
   omega
  subst em
  obtain ⟨j,hj,hbef⟩:=z7y hm
  have hj':=hj
  rw [List.getElem?_map] at hj'
  obtain ⟨n1,hn1,en1⟩:=Option.map_eq_some_iff.mp hj'
  have fl:((b.names.map (nix ρ)).map V.int).all flatV=true:=by rw [List.all_map]; exact List.all_eq_true.mpr fun _ _=>rfl
  refine ⟨D,_,_,j,_,rfl,rfl,SqL.of hD4,rfl,fl,(by rw [List.getElem?_map]; exact congrArg (Option.map V.int) hj),by simp [eqV],fun m z' hm hz=>?_,?_⟩
  ·rw [List.getElem?_map] at hz
   obtain ⟨s,hs,rfl⟩:=Option.map_eq_some_iff.mp hz
   have:s ≠ nix ρ n0:=fun z=>hbef m hm (by rw [hs,z])
   simp [eqV,this]
  have hn1':=hn1
  rw [List.getElem?_map] at hn1'
  obtain ⟨k,ek,rfl⟩:=Option.map_eq_some_iff.mp hn1'
  have jl:j < xs.length:=by rw [xl]; exact (List.getElem?_eq_some_iff.mp ek).1
  have ex:xs[j]?=some xs[j]:=List.getElem?_eq_getElem jl
  obtain ⟨k2,ek2,t,lk,zs,et,hT,_⟩:=ha.get ex
  rw [ek] at ek2
  cases ek2
  rw [et] at ex
  refine ⟨l,xs,_,_,rfl,rfl,SqL.of (s04.keep _ _ hl nmn),atI_nat ex,t,_,_,_,rfl,rfl,s04.sqT hT,atI_nat (j:=0) rfl,by show 2<=sizeLine; decide,fun T nT=>?_⟩
  have se:(ρ n0).sortT=(ρ k.n).sortT:=by
   obtain ⟨d1,_,_⟩:=z36 (Lad.sortT_in (ρ k.n))
   have e2:srtI (ρ k.n).sortT=srtI (ρ n0).sortT:=by
    have:((srtI (ρ k.n).sortT:Nat):Int)=(srtI (ρ n0).sortT:Nat):=en1
    omega
   rw [e2,c1] at d1
   exact Option.some.inj d1
  refine q T _ _ _ (s04.trans (SB.new nT _)) (SqT.of upd_same) ⟨j,hn1,se,fun x hx=>by rw [en1]; exact hmax x hx,fun i x hi hx=>?_⟩
  intro z
  refine hbef i hi ?_
  rw [List.getElem?_map,hx]
  exact congrArg some (z.trans en1)
theorem z62 {s n:Str} (h:z01 s) (g:z01 n):SeqAt.shaped (.tuple [.str s,.str n])=true:=by
 have hp:plSs ([s,n].map PyData.str)=true:=z79 fun x hx=>by
  rcases List.mem_cons.mp hx with e | hx
  ·rw [e]; exact h
  ·rw [List.mem_singleton.mp hx]; exact g
 have hd:=z6y [s,n]
 unfold SeqAt.shaped
 rw [PyData.canLay0,show [PyData.str s,PyData.str n]=[s,n].map PyData.str from rfl,z25 _ hp,Bool.true_and]
 have:(PyData.tuple ([s,n].map PyData.str)).depth=PyData.depthAll ([s,n].map PyData.str)+1:=by simp [PyData.depth]
 exact decide_eq_true (by omega)
theorem z8n {s:Str} (h:s ∈ srtL):z01 s:=by
 have key:∀ s ∈ srtL,(decide (1<=s.cps.toList.length)&&decide (s.cps.toList.length<=8)&&s.cps.toList.all fun c=>decide (97<=c)&&decide (c<=122))=true:=by decide +kernel
 have:=key s h
 rw [Bool.and_eq_true,Bool.and_eq_true,decide_eq_true_eq,decide_eq_true_eq,List.all_eq_true] at this
 refine ⟨this.1.1,this.1.2,fun c hc=>?_⟩
 have h2:=this.2 c hc
 rw [Bool.and_eq_true,decide_eq_true_eq,decide_eq_true_eq] at h2
 exact h2
abbrev zej:List Str:=["_law_script","_law_k","_law_cell","_law_kinds_here","_law_book","_law_endless_here","_law_found","_law_name","_law_spreading","_law_told"]
theorem sc_q43:FnScope zej ["_law_script"] (defScope z3o):=⟨rfl,rfl,rfl,by decide +kernel,rfl,by decide +kernel,by decide +kernel⟩
theorem zi3 {C_Book C_NoBook C_NoKind C_Endless:Addr} (B:BI mg) (G_q6:Got P w K mg base "_law_at" ["_law_script","_law_k"] (1) (spAt K)) (G_q11:Got P w K mg base "_law_kinds" ["_law_purse_here"] (18) (z0s K)) (G_q15:Got P w K mg base "_law_purse" ["_law_cell","_law_salt"] (1) (z7d)) (G_q0:GotI P w K mg base "Book" C_Book ["self","kinds"] (88) (z2z K C_Book C_NoBook)) (G_q9:Got P w K mg base "_law_endless" ["_law_kinds_here"] (22) (z7a K)) (G_q17:Got P w K mg base "_law_refused" ["_law_book","_law_kind"] (76) (z7c K C_Book)) (G_q57:GotX P w K mg base "sort_needed" ["book"] (75) (z35 K C_Book C_NoKind C_Endless)) (G_q13:Got P w K mg base "_law_needed" ["_law_book","_law_kinds_here"] (77) (z69 K C_Book)) (F:Fun K "law" "law" z3o f fd):FnOk P w K mg base CX0 (120) f fd ["_law_script"] (spLaw K):=by
 refine F.ok sc_q43 (fun vs H Q E h=>?_) (fun cdv A outer s H vs Q E hr h=>?_)
 ·obtain ⟨a,ns,rfl,_⟩:=h
  rfl
 obtain ⟨a,ns,rfl,hs,nl,q⟩:=h
 have hun2:=hunT hr
 refine ⟨_,pss_cons (ps_for PassesOwn.never rfl (pi_enum rfl B.enumerate (pa_cons (pe_op op_cat (pe_lst (pa_cons (z00 G_q6 (hr.mono (by omega)) rfl (pa_cons (pv 0) (pa_cons pe_int pa_nil))) pa_nil)) (pe_slice sl_list (pv 0) (po_some pe_int) (po_some pe_int))) pa_nil)) (pg_tup rfl (pgs_cons (pg_name (i:=1) sc_q43.nd rfl (.inl rfl)) (pgs_cons (pg_name (i:=2) sc_q43.nd rfl (.inl rfl)) pgs_nil)))
   (pss_cons (ps_set (i:=3) sc_q43.nd rfl (.inl rfl) (z00 G_q11 (hr.mono (by omega)) rfl (pa_cons (z00 G_q15 (hr.mono (by omega)) rfl (pa_cons (pv 2) (pa_cons (pv 1) pa_nil))) pa_nil)))
  (pss_cons (ps_set (i:=4) sc_q43.nd rfl (.inl rfl) (zgl G_q0 (hr.mono (by omega)) rfl (pa_cons (pe_lc (own:=[("_law_name",7),("_law_spreading",8),("_law_told",9)]) (g:=(gTup K 3 (gCons (gName 7) (gCons (gName 8) (gCons (gName 9) gNil))))) (tt:=tYes) (te:=(tTup (tCons (tVar 7) (tCons (tVar 8) (tCons (tCB (fun xs H Q=>∃ p ys,xs=[.ref p]/\(SqL K H p ys\/SqT K H p ys)/\∀ l,H l=none->Q (.ref l) (upd H l (.lst ys))) (tCons (tVar 9) tNil)) tNil))))) rfl sc_q43.nd (pi_list (pv 3)) (blkOk_by (N:=zej) (sc:=defScope z3o) (by decide +kernel)) (fun _ _ _ _ _=>(pg_tup rfl (pgs_cons (pg_name (i:=7) sc_q43.nd rfl (.inl rfl)) (pgs_cons (pg_name (i:=8) sc_q43.nd rfl (.inl rfl)) (pgs_cons (pg_name (i:=9) sc_q43.nd rfl (.inl rfl)) pgs_nil))))) (fun _ _ _ _ _=>pts_nil) (fun _ _ _ _ _=>(pe_tup (pa_cons (pv 7) (pa_cons (pv 8) (pa_cons (pe_callTy call_list_of rfl B.list boot_list (pa_cons (pv 9) pa_nil)) pa_nil)))))) pa_nil)))
  (pss_cons (ps_set (i:=5) sc_q43.nd rfl (.inl rfl) (z00 G_q9 (hr.mono (by omega)) rfl (pa_cons (pv 3) pa_nil)))
  (pss_one (ps_if (pt_cmpR (op_neD (by show A.units+3+64 < cLine; omega)) (pv 5) (pe_lst pa_nil) (nomark _)) (pss_one (ps_if (pt_not (pt_val (z00 G_q17 (hr.mono (by omega)) rfl (pa_cons (pv 4) (pa_cons (pe_ix ix_list (pv 5) pe_int (fun _ _=>rfl)) pa_nil))))) (pss_one (ps_ret pe_bl)) pss_nil)) (pss_cons (ps_set (i:=6) sc_q43.nd rfl (.inl rfl) (z2v G_q57 (hr.mono (by omega)) rfl (pa_cons (pv 4) pa_nil)))
  (pss_one (ps_if (PW.pt (pw_or (pt_not (pt_val (z0z B (pv 6) B.tuple boot_tuple))) (pw_or1 (pt_cmpR (op_neD (by show A.units+3+64 < cLine; omega)) (pv 6) (z00 G_q13 (hr.mono (by omega)) rfl (pa_cons (pv 4) (pa_cons (pv 3) pa_nil))) (nomark _))))) (pss_one (ps_ret pe_bl)) pss_nil)))))))))
  (pss_one (ps_ret pe_bl)),?_⟩
 classical
 have szl:=sizeLine_eq
 refine zfn (a:=a) (ns:=ns) rfl hs nl (fun σ _=>∃ o1 o2 o3 o4 o5 o6 o7 o8 o9,σ=[some (.ref a),o1,o2,o3,o4,o5,o6,o7,o8,o9]) (fun _ _=>⟨_,_,_,_,_,_,_,_,_,rfl⟩) (fun _ _ _ _ h=>h) (fun H3 s3 i c σ H2 hi s2 h2=>?_) (fun σ H2 s2 h2=>q _)
 obtain ⟨o1,o2,o3,o4,o5,o6,o7,o8,o9,rfl⟩:=h2
 refine ⟨_,rfl,_,rfl,c,(i:Nat),rfl,by omega,by omega,fun p H4 s4 np p4=>?_⟩
 refine ⟨p,rfl,p4,fun l xs b H5 s5 hp5 nl5 hl5 ha5 ok few=>?_⟩
 obtain ⟨ow,bd⟩:=zge ok few
 have s25:SB [] H2 H5:=((s4.nil (ps:=[p])).trans s5).drop np
 have ha5':KdAll K H5 [] xs b:=ha5.less (by simp)
 refine z0d (seqI (asgI (zb0 (i:=3) (a1:=7) (a2:=8) (a3:=9) rfl (fun _ _ _=>rfl) (fun _ _ _=>rfl) (fun _ _ _=>rfl) (fun _ _ _=>rfl) hl5 ha5' ok fun bk H6 s6 nbk hbk=>?_)))
 have s26:=s25.trans s6
 have hl6:=s6.keep _ _ hl5 nmn
 have ha6:=ha5'.sb s6 NoLst.nil
 refine z0d ?_
 refine ⟨_,rfl,l,xs,b,rfl,hl6,ha6,ok,fun E1 es H7 s7 nE1 hE1 srt1 nd1 m1=>?_⟩
 have s27:=s26.trans s7
 have hbk7:=hbk.sb0 s7
 have hE8:∀ {z:Addr},H7 z=none->(upd H7 z (.lst [])) E1=some (.lst (es.map V.str)):=fun nz=>(SB.new (ps:=[]) nz (.lst [])).keep _ _ hE1 nmn
 refine z0d ?_
 refine ⟨_,rfl,by show 0<=sizeLine; decide,fun z0 nz0=>?_⟩
 have t8:=SB.new (ps:=[]) nz0 (.lst [])
 have hE8:=t8.keep _ _ hE1 nmn
 have hz8:upd H7 z0 (.lst []) z0=some (.lst []):=upd_same
 have hbk8:=hbk7.sb0 t8
 have s28:=s27.trans t8
 have s68:=s7.trans t8
 generalize upd H7 z0 (.lst [])=H8 at t8 hE8 hz8 hbk8 s28 s68
 have eno:∀ x ∈ es,z01 x:=fun x hx=>ok.names x ((m1 x).mp hx).1
 refine ⟨.list (es.map .str),.list [],.lst (SqL.of hE8) (z5w K H8 es),.lst (SqL.of hz8) .nil,z2q eno,by decide +kernel,_,rfl,?_⟩
 have ow72:z88 b (z02 b):=⟨ow,fun n hn he=>(bd n hn he).2⟩
 cases es with
 | cons n r =>
  rw [show (!PyData.eqv (.list ((n::r).map .str)) (.list []))=true by simp [PyData.eqv,PyData.eqvAll]]
  refine iteT ?_
  refine ⟨_,rfl,_,rfl,E1,_,_,_,rfl,rfl,SqL.of hE8,atI_nat (j:=0) rfl,.ref bk,b,z02 b,n,r,rfl,hbk8,ok,ow72,⟨srt1,nd1,m1⟩,fun H9 s9=>⟨true,rfl,iteF ⟨s2.trans (s28.trans s9),_,_,_,_,_,_,_,_,_,rfl⟩⟩⟩
 | nil =>
  rw [show (!PyData.eqv (.list (([]:List Str).map .str)) (.list []))=false by simp [PyData.eqv,PyData.eqvAll]]
  have hend:∀ n ∈ b.names,EndK b n:=fun n hn=>Classical.byContradiction fun z=>absurd ((m1 n).mpr ⟨hn,z⟩) nmn
  refine iteF ?_
  have hl8:=s68.keep _ _ hl6 nmn
  have ha8:=ha6.sb s68 NoLst.nil
  refine ⟨_,rfl,.ref bk,b,z02 b,[],rfl,hbk8,ok,ow72,⟨srt1,nd1,m1⟩,fun _ t s n H9 s9 ht hn=>?_,fun n r e=>nomatch e⟩
  refine z0d ?_
  refine ⟨_,rfl,_,_,"tuple",true,rfl,z32 ht,by decide +kernel,_,rfl,iteF ?_⟩
  refine ⟨_,rfl,_,rfl,_,rfl,.ref bk,l,xs,b,z02 b,rfl,hbk8.sb0 s9,s9.keep _ _ hl8 nmn,ha8.sb s9 NoLst.nil,ok,ow72,hend,fun t2 s' n' H10 s10 ht2 hn2=>?_⟩
  obtain ⟨e1,e2⟩:=hn.uniq hn2
  subst e1 e2
  have sno:s ∈ srtL:=by obtain ⟨_,_,e,_⟩:=hn; rw [e]; exact Lad.sortT_in _
  refine ⟨.tuple [.str s,.str n],.tuple [.str s,.str n],.tup (s10.sqT ht) (.cons (.str _) (.cons (.str _) .nil)),.tup ht2 (.cons (.str _) (.cons (.str _) .nil)),?_,?_,_,rfl,?_⟩
  ·exact z62 (z8n sno) (ok.names n (by obtain ⟨j,e,_⟩:=hn; exact List.mem_of_getElem? e))
  ·exact z62 (z8n sno) (ok.names n (by obtain ⟨j,e,_⟩:=hn; exact List.mem_of_getElem? e))
  rw [show (!PyData.eqv (.tuple [.str s,.str n]) (.tuple [.str s,.str n]))=false by simp [PyData.eqv,PyData.eqvAll]]
  exact iteF ⟨s2.trans ((s28.trans s9).trans s10),_,_,_,_,_,_,_,_,_,rfl⟩
end
theorem facts {P:Program} {w:World} {K:PySem.W.Frag} {h:Heap} {mg:Str->Option Value} {f:Addr} (X:K.In h) (G:h.Ns mainGlobals mg) (hfa:mg ("law":Str)=some (.ref f)) (c:He.SaysD fa fn K) (cx:exOk K=true) :
  ∃ fd:FuncData,(∀ (s:Shared) (v:Value),BindsTo s fd ⟨[v],[]⟩ [("_law_script",v)])/\∀ base:Heap,K.In base->base.Ns mainGlobals mg->FnOk P w K mg base CX0 120 f fd ["_law_script"] (spLaw K):=by
 obtain ⟨fd_q40,D_q40⟩:=c.def_ 0 (d:=zf0) rfl
 have F_q40:Fun K "is_whole" "is_whole" z5t _ fd_q40:=He5.fun_of D_q40
 have m_q40:=He.glo_ok X G (c.fact 0 (f:=.glo "is_whole") rfl)
 have b_q40:=F_q40.binds (ps:=["thing"]) fun _ _ _ _ _ _ us hl=>match us,hl with | [_],_=>rfl
 obtain ⟨fd_q34,D_q34⟩:=c.def_ 1 (d:=zdv) rfl
 have F_q34:Fun K "is_many" "is_many" z5b _ fd_q34:=He5.fun_of D_q34
 have m_q34:=He.glo_ok X G (c.fact 1 (f:=.glo "is_many") rfl)
 have b_q34:=F_q34.binds (ps:=["thing"]) fun _ _ _ _ _ _ us hl=>match us,hl with | [_],_=>rfl
 obtain ⟨fd_q35,D_q35⟩:=c.def_ 2 (d:=zev) rfl
 have F_q35:Fun K "is_name" "is_name" z5o _ fd_q35:=He5.fun_of D_q35
 have m_q35:=He.glo_ok X G (c.fact 2 (f:=.glo "is_name") rfl)
 have b_q35:=F_q35.binds (ps:=["thing"]) fun _ _ _ _ _ _ us hl=>match us,hl with | [_],_=>rfl
 obtain ⟨fd_q36,D_q36⟩:=c.def_ 3 (d:=zfk) rfl
 have F_q36:Fun K "is_rising" "is_rising" z2l _ fd_q36:=He5.fun_of D_q36
 have m_q36:=He.glo_ok X G (c.fact 3 (f:=.glo "is_rising") rfl)
 have b_q36:=F_q36.binds (ps:=["things"]) fun _ _ _ _ _ _ us hl=>match us,hl with | [_],_=>rfl
 obtain ⟨fd_q41,D_q41⟩:=c.def_ 4 (d:=ze4) rfl
 have F_q41:Fun K "joined" "joined" z5d _ fd_q41:=He5.fun_of D_q41
 have m_q41:=He.glo_ok X G (c.fact 4 (f:=.glo "joined") rfl)
 have b_q41:=F_q41.binds (ps:=["pairs"]) fun _ _ _ _ _ _ us hl=>match us,hl with | [_],_=>rfl
 obtain ⟨fd_q46,D_q46⟩:=c.def_ 5 (d:=zdm) rfl
 have F_q46:Fun K "many_at" "many_at" z49 _ fd_q46:=He5.fun_of D_q46
 have m_q46:=He.glo_ok X G (c.fact 5 (f:=.glo "many_at") rfl)
 have b_q46:=F_q46.binds (ps:=["pairs","thing"]) fun _ _ _ _ _ _ us hl=>match us,hl with | [_,_],_=>rfl
 obtain ⟨fd_q56,D_q56⟩:=c.def_ 6 (d:=zey) rfl
 have F_q56:Fun K "run_of" "run_of" z5a _ fd_q56:=He5.fun_of D_q56
 have m_q56:=He.glo_ok X G (c.fact 6 (f:=.glo "run_of") rfl)
 have b_q56:=F_q56.binds (ps:=["text","at","signs"]) fun _ _ _ _ _ _ us hl=>match us,hl with | [_,_,_],_=>rfl
 obtain ⟨fd_q62,D_q62⟩:=c.def_ 7 (d:=zes) rfl
 have F_q62:Fun K "tree_at" "tree_at" z54 _ fd_q62:=He5.fun_of D_q62
 have m_q62:=He.glo_ok X G (c.fact 7 (f:=.glo "tree_at") rfl)
 have b_q62:=F_q62.binds (ps:=["grove","place"]) fun _ _ _ _ _ _ us hl=>match us,hl with | [_,_],_=>rfl
 obtain ⟨fd_q21,D_q21⟩:=c.def_ 8 (d:=zeb) rfl
 have F_q21:Fun K "all_places" "all_places" z3c _ fd_q21:=He5.fun_of D_q21
 have m_q21:=He.glo_ok X G (c.fact 8 (f:=.glo "all_places") rfl)
 have b_q21:=F_q21.binds (ps:=["grove"]) fun _ _ _ _ _ _ us hl=>match us,hl with | [_],_=>rfl
 obtain ⟨fd_q39,D_q39⟩:=c.def_ 9 (d:=zeu) rfl
 have F_q39:Fun K "is_tree" "is_tree" z5n _ fd_q39:=He5.fun_of D_q39
 have m_q39:=He.glo_ok X G (c.fact 9 (f:=.glo "is_tree") rfl)
 have b_q39:=F_q39.binds (ps:=["thing"]) fun _ _ _ _ _ _ us hl=>match us,hl with | [_],_=>rfl
 obtain ⟨fd_q31,D_q31⟩:=c.def_ 10 (d:=zer) rfl
 have F_q31:Fun K "is_grove" "is_grove" z3s _ fd_q31:=He5.fun_of D_q31
 have m_q31:=He.glo_ok X G (c.fact 10 (f:=.glo "is_grove") rfl)
 have b_q31:=F_q31.binds (ps:=["thing"]) fun _ _ _ _ _ _ us hl=>match us,hl with | [_],_=>rfl
 obtain ⟨fd_q23,D_q23⟩:=c.def_ 11 (d:=zdi) rfl
 have F_q23:Fun K "are_grove_pairs" "are_grove_pairs" z47 _ fd_q23:=He5.fun_of D_q23
 have m_q23:=He.glo_ok X G (c.fact 11 (f:=.glo "are_grove_pairs") rfl)
 have b_q23:=F_q23.binds (ps:=["things"]) fun _ _ _ _ _ _ us hl=>match us,hl with | [_],_=>rfl
 obtain ⟨fd_q51,D_q51⟩:=c.def_ 12 (d:=zdz) rfl
 have F_q51:Fun K "pairs_within" "pairs_within" z5k _ fd_q51:=He5.fun_of D_q51
 have m_q51:=He.glo_ok X G (c.fact 12 (f:=.glo "pairs_within") rfl)
 have b_q51:=F_q51.binds (ps:=["grove"]) fun _ _ _ _ _ _ us hl=>match us,hl with | [_],_=>rfl
 obtain ⟨fd_q61,D_q61⟩:=c.def_ 13 (d:=zfh) rfl
 have F_q61:Fun K "steps_of" "steps_of" z58 _ fd_q61:=He5.fun_of D_q61
 have m_q61:=He.glo_ok X G (c.fact 13 (f:=.glo "steps_of") rfl)
 have b_q61:=F_q61.binds (ps:=["book","name"]) fun _ _ _ _ _ _ us hl=>match us,hl with | [_,_],_=>rfl
 obtain ⟨fd_q60,D_q60⟩:=c.def_ 14 (d:=zei) rfl
 have F_q60:Fun K "steps_in" "steps_in" z43 _ fd_q60:=He5.fun_of D_q60
 have m_q60:=He.glo_ok X G (c.fact 14 (f:=.glo "steps_in") rfl)
 have b_q60:=F_q60.binds (ps:=["name","rule","word","grove"]) fun _ _ _ _ _ _ us hl=>match us,hl with | [_,_,_,_],_=>rfl
 obtain ⟨fd_q45,D_q45⟩:=c.def_ 15 (d:=zdg) rfl
 have F_q45:Fun K "leads" "leads" z4g _ fd_q45:=He5.fun_of D_q45
 have m_q45:=He.glo_ok X G (c.fact 15 (f:=.glo "leads") rfl)
 have b_q45:=F_q45.binds (ps:=["book","name"]) fun _ _ _ _ _ _ us hl=>match us,hl with | [_,_],_=>rfl
 obtain ⟨fd_q29,D_q29⟩:=c.def_ 16 (d:=zfi) rfl
 have F_q29:Fun K "ending_kinds" "ending_kinds" z4i _ fd_q29:=He5.fun_of D_q29
 have m_q29:=He.glo_ok X G (c.fact 16 (f:=.glo "ending_kinds") rfl)
 have b_q29:=F_q29.binds (ps:=["book"]) fun _ _ _ _ _ _ us hl=>match us,hl with | [_],_=>rfl
 obtain ⟨fd_q44,D_q44⟩:=c.def_ 17 (d:=zet) rfl
 have F_q44:Fun K "lead_into" "lead_into" z3w _ fd_q44:=He5.fun_of D_q44
 have m_q44:=He.glo_ok X G (c.fact 17 (f:=.glo "lead_into") rfl)
 have b_q44:=F_q44.binds (ps:=["led","ending"]) fun _ _ _ _ _ _ us hl=>match us,hl with | [_,_],_=>rfl
 obtain ⟨fd_q30,D_q30⟩:=c.def_ 18 (d:=zds) rfl
 have F_q30:Fun K "endless_kinds" "endless_kinds" z3x _ fd_q30:=He5.fun_of D_q30
 have m_q30:=He.glo_ok X G (c.fact 18 (f:=.glo "endless_kinds") rfl)
 have b_q30:=F_q30.binds (ps:=["book"]) fun _ _ _ _ _ _ us hl=>match us,hl with | [_],_=>rfl
 obtain ⟨fd_q48,D_q48⟩:=c.def_ 19 (d:=zdl) rfl
 have F_q48:Fun K "number" "number" z5i _ fd_q48:=He5.fun_of D_q48
 have m_q48:=He.glo_ok X G (c.fact 19 (f:=.glo "number") rfl)
 have b_q48:=F_q48.binds (ps:=["many"]) fun _ _ _ _ _ _ us hl=>match us,hl with | [_],_=>rfl
 obtain ⟨fd_q33,D_q33⟩:=c.def_ 20 (d:=zeh) rfl
 have F_q33:Fun K "is_less" "is_less" z3t _ fd_q33:=He5.fun_of D_q33
 have m_q33:=He.glo_ok X G (c.fact 20 (f:=.glo "is_less") rfl)
 have b_q33:=F_q33.binds (ps:=["one","other"]) fun _ _ _ _ _ _ us hl=>match us,hl with | [_,_],_=>rfl
 obtain ⟨fd_q55,D_q55⟩:=c.def_ 21 (d:=zdw) rfl
 have F_q55:Fun K "rules_from_nought" "rules_from_nought" z5l _ fd_q55:=He5.fun_of D_q55
 have m_q55:=He.glo_ok X G (c.fact 21 (f:=.glo "rules_from_nought") rfl)
 have b_q55:=F_q55.binds (ps:=["book","name"]) fun _ _ _ _ _ _ us hl=>match us,hl with | [_,_],_=>rfl
 obtain ⟨fd_q27,D_q27⟩:=c.def_ 22 (d:=zdn) rfl
 have F_q27:Fun K "check_kind" "check_kind" z5u _ fd_q27:=He5.fun_of D_q27
 have m_q27:=He.glo_ok X G (c.fact 22 (f:=.glo "check_kind") rfl)
 have b_q27:=F_q27.binds (ps:=["book","name"]) fun _ _ _ _ _ _ us hl=>match us,hl with | [_,_],_=>rfl
 obtain ⟨fd_q24,D_q24⟩:=c.def_ 23 (d:=zec) rfl
 have F_q24:Fun K "are_kinds" "are_kinds" z2n _ fd_q24:=He5.fun_of D_q24
 have m_q24:=He.glo_ok X G (c.fact 23 (f:=.glo "are_kinds") rfl)
 have b_q24:=F_q24.binds (ps:=["things"]) fun _ _ _ _ _ _ us hl=>match us,hl with | [_],_=>rfl
 obtain ⟨fd_q32,D_q32⟩:=c.def_ 24 (d:=ze5) rfl
 have F_q32:Fun K "is_kind" "is_kind" z3z _ fd_q32:=He5.fun_of D_q32
 have m_q32:=He.glo_ok X G (c.fact 24 (f:=.glo "is_kind") rfl)
 have b_q32:=F_q32.binds (ps:=["thing"]) fun _ _ _ _ _ _ us hl=>match us,hl with | [_],_=>rfl
 obtain ⟨fd_q37,D_q37⟩:=c.def_ 25 (d:=zeo) rfl
 have F_q37:Fun K "is_rule" "is_rule" z4c _ fd_q37:=He5.fun_of D_q37
 have m_q37:=He.glo_ok X G (c.fact 25 (f:=.glo "is_rule") rfl)
 have b_q37:=F_q37.binds (ps:=["thing"]) fun _ _ _ _ _ _ us hl=>match us,hl with | [_],_=>rfl
 obtain ⟨fd_q38,D_q38⟩:=c.def_ 26 (d:=ze2) rfl
 have F_q38:Fun K "is_rule_of" "is_rule_of" z42 _ fd_q38:=He5.fun_of D_q38
 have m_q38:=He.glo_ok X G (c.fact 26 (f:=.glo "is_rule_of") rfl)
 have b_q38:=F_q38.binds (ps:=["rule","names"]) fun _ _ _ _ _ _ us hl=>match us,hl with | [_,_],_=>rfl
 obtain ⟨fd_q25,D_q25⟩:=c.def_ 27 (d:=zfe) rfl
 have F_q25:Fun K "behind" "behind" z48 _ fd_q25:=He5.fun_of D_q25
 have m_q25:=He.glo_ok X G (c.fact 27 (f:=.glo "behind") rfl)
 have b_q25:=F_q25.binds (ps:=["one","other"]) fun _ _ _ _ _ _ us hl=>match us,hl with | [_,_],_=>rfl
 obtain ⟨fd_q26,D_q26⟩:=c.def_ 28 (d:=zdh) rfl
 have F_q26:Fun K "both" "both" z53 _ fd_q26:=He5.fun_of D_q26
 have m_q26:=He.glo_ok X G (c.fact 28 (f:=.glo "both") rfl)
 have b_q26:=F_q26.binds (ps:=["one","other"]) fun _ _ _ _ _ _ us hl=>match us,hl with | [_,_],_=>rfl
 obtain ⟨fd_q22,D_q22⟩:=c.def_ 29 (d:=zf9) rfl
 have F_q22:Fun K "all_together" "all_together" z3v _ fd_q22:=He5.fun_of D_q22
 have m_q22:=He.glo_ok X G (c.fact 29 (f:=.glo "all_together") rfl)
 have b_q22:=F_q22.binds (ps:=["some"]) fun _ _ _ _ _ _ us hl=>match us,hl with | [_],_=>rfl
 obtain ⟨fd_q47,D_q47⟩:=c.def_ 30 (d:=ze6) rfl
 have F_q47:Fun K "many_of" "many_of" z4k _ fd_q47:=He5.fun_of D_q47
 have m_q47:=He.glo_ok X G (c.fact 30 (f:=.glo "many_of") rfl)
 have b_q47:=F_q47.binds (ps:=["ladder","many"]) fun _ _ _ _ _ _ us hl=>match us,hl with | [_,_],_=>rfl
 obtain ⟨fd_q52,D_q52⟩:=c.def_ 31 (d:=zeg) rfl
 have F_q52:Fun K "power" "power" z5j _ fd_q52:=He5.fun_of D_q52
 have m_q52:=He.glo_ok X G (c.fact 31 (f:=.glo "power") rfl)
 have b_q52:=F_q52.binds (ps:=["ladder"]) fun _ _ _ _ _ _ us hl=>match us,hl with | [_],_=>rfl
 obtain ⟨fd_q20,D_q20⟩:=c.def_ 32 (d:=zew) rfl
 have F_q20:Fun K "above" "above" z40 _ fd_q20:=He5.fun_of D_q20
 have m_q20:=He.glo_ok X G (c.fact 32 (f:=.glo "above") rfl)
 have b_q20:=F_q20.binds (ps:=["one","other"]) fun _ _ _ _ _ _ us hl=>match us,hl with | [_,_],_=>rfl
 obtain ⟨fd_q59,D_q59⟩:=c.def_ 33 (d:=zdr) rfl
 have F_q59:Fun K "spread" "spread" z5y _ fd_q59:=He5.fun_of D_q59
 have m_q59:=He.glo_ok X G (c.fact 33 (f:=.glo "spread") rfl)
 have b_q59:=F_q59.binds (ps:=["one","other"]) fun _ _ _ _ _ _ us hl=>match us,hl with | [_,_],_=>rfl
 obtain ⟨fd_q49,D_q49⟩:=c.def_ 34 (d:=zdo) rfl
 have F_q49:Fun K "own_rank" "own_rank" z5r _ fd_q49:=He5.fun_of D_q49
 have m_q49:=He.glo_ok X G (c.fact 34 (f:=.glo "own_rank") rfl)
 have b_q49:=F_q49.binds (ps:=["book","name"]) fun _ _ _ _ _ _ us hl=>match us,hl with | [_,_],_=>rfl
 obtain ⟨fd_q50,D_q50⟩:=c.def_ 35 (d:=zfc) rfl
 have F_q50:Fun K "own_ranks" "own_ranks" z46 _ fd_q50:=He5.fun_of D_q50
 have m_q50:=He.glo_ok X G (c.fact 35 (f:=.glo "own_ranks") rfl)
 have b_q50:=F_q50.binds (ps:=["book"]) fun _ _ _ _ _ _ us hl=>match us,hl with | [_],_=>rfl
 obtain ⟨fd_q28,D_q28⟩:=c.def_ 36 (d:=zfa) rfl
 have F_q28:Fun K "climb" "climb" z5e _ fd_q28:=He5.fun_of D_q28
 have m_q28:=He.glo_ok X G (c.fact 36 (f:=.glo "climb") rfl)
 have b_q28:=F_q28.binds (ps:=["book","worths","rule"]) fun _ _ _ _ _ _ us hl=>match us,hl with | [_,_,_],_=>rfl
 obtain ⟨fd_q53,D_q53⟩:=c.def_ 37 (d:=zdf) rfl
 have F_q53:Fun K "reckoned" "reckoned" z3y _ fd_q53:=He5.fun_of D_q53
 have m_q53:=He.glo_ok X G (c.fact 37 (f:=.glo "reckoned") rfl)
 have b_q53:=F_q53.binds (ps:=["book","worths","grove"]) fun _ _ _ _ _ _ us hl=>match us,hl with | [_,_,_],_=>rfl
 obtain ⟨fd_q54,D_q54⟩:=c.def_ 38 (d:=zfd) rfl
 have F_q54:Fun K "reckoned_tree" "reckoned_tree" z5p _ fd_q54:=He5.fun_of D_q54
 have m_q54:=He.glo_ok X G (c.fact 38 (f:=.glo "reckoned_tree") rfl)
 have b_q54:=F_q54.binds (ps:=["book","worths","tree"]) fun _ _ _ _ _ _ us hl=>match us,hl with | [_,_,_],_=>rfl
 obtain ⟨fd_q42,D_q42⟩:=c.def_ 39 (d:=zf4) rfl
 have F_q42:Fun K "laden" "laden" z5z _ fd_q42:=He5.fun_of D_q42
 have m_q42:=He.glo_ok X G (c.fact 39 (f:=.glo "laden") rfl)
 have b_q42:=F_q42.binds (ps:=["book","kind","own","inner"]) fun _ _ _ _ _ _ us hl=>match us,hl with | [_,_,_,_],_=>rfl
 obtain ⟨fd_q58,D_q58⟩:=c.def_ 40 (d:=zf2) rfl
 have F_q58:Fun K "sort_of" "sort_of" z1x _ fd_q58:=He5.fun_of D_q58
 have m_q58:=He.glo_ok X G (c.fact 40 (f:=.glo "sort_of") rfl)
 have b_q58:=F_q58.binds (ps:=["ladder"]) fun _ _ _ _ _ _ us hl=>match us,hl with | [_],_=>rfl
 obtain ⟨fd_q57,D_q57⟩:=c.def_ 41 (d:=zez) rfl
 have F_q57:Fun K "sort_needed" "sort_needed" z1y _ fd_q57:=He5.fun_of D_q57
 have m_q57:=He.glo_ok X G (c.fact 41 (f:=.glo "sort_needed") rfl)
 have b_q57:=F_q57.binds (ps:=["book"]) fun _ _ _ _ _ _ us hl=>match us,hl with | [_],_=>rfl
 obtain ⟨fd_q6,D_q6⟩:=c.def_ 42 (d:=d_q6) rfl
 have F_q6:Fun K "_law_at" "_law_at" s_q6 _ fd_q6:=He5.fun_of D_q6
 have m_q6:=He.glo_ok X G (c.fact 42 (f:=.glo "_law_at") rfl)
 have b_q6:=F_q6.binds (ps:=["_law_script","_law_k"]) fun _ _ _ _ _ _ us hl=>match us,hl with | [_,_],_=>rfl
 obtain ⟨fd_q15,D_q15⟩:=c.def_ 43 (d:=zf3) rfl
 have F_q15:Fun K "_law_purse" "_law_purse" z57 _ fd_q15:=He5.fun_of D_q15
 have m_q15:=He.glo_ok X G (c.fact 43 (f:=.glo "_law_purse") rfl)
 have b_q15:=F_q15.binds (ps:=["_law_cell","_law_salt"]) fun _ _ _ _ _ _ us hl=>match us,hl with | [_,_],_=>rfl
 obtain ⟨fd_q7,D_q7⟩:=c.def_ 44 (d:=d_q7) rfl
 have F_q7:Fun K "_law_draw" "_law_draw" s_q7 _ fd_q7:=He5.fun_of D_q7
 have m_q7:=He.glo_ok X G (c.fact 44 (f:=.glo "_law_draw") rfl)
 have b_q7:=F_q7.binds (ps:=["_law_purse_here","_law_many"]) fun _ _ _ _ _ _ us hl=>match us,hl with | [_,_],_=>rfl
 obtain ⟨fd_q12,D_q12⟩:=c.def_ 45 (d:=zel) rfl
 have F_q12:Fun K "_law_names" "_law_names" z1o _ fd_q12:=He5.fun_of D_q12
 have m_q12:=He.glo_ok X G (c.fact 45 (f:=.glo "_law_names") rfl)
 have b_q12:=F_q12.binds (ps:=["_law_purse_here","_law_many"]) fun _ _ _ _ _ _ us hl=>match us,hl with | [_,_],_=>rfl
 obtain ⟨fd_q10,D_q10⟩:=c.def_ 46 (d:=zef) rfl
 have F_q10:Fun K "_law_grove" "_law_grove" z3r _ fd_q10:=He5.fun_of D_q10
 have m_q10:=He.glo_ok X G (c.fact 46 (f:=.glo "_law_grove") rfl)
 have b_q10:=F_q10.binds (ps:=["_law_purse_here","_law_names_here","_law_under","_law_left"]) fun _ _ _ _ _ _ us hl=>match us,hl with | [_,_,_,_],_=>rfl
 obtain ⟨fd_q14,D_q14⟩:=c.def_ 47 (d:=zeq) rfl
 have F_q14:Fun K "_law_planted" "_law_planted" z3m _ fd_q14:=He5.fun_of D_q14
 have m_q14:=He.glo_ok X G (c.fact 47 (f:=.glo "_law_planted") rfl)
 have b_q14:=F_q14.binds (ps:=["_law_purse_here"]) fun _ _ _ _ _ _ us hl=>match us,hl with | [_],_=>rfl
 obtain ⟨fd_q8,D_q8⟩:=c.def_ 48 (d:=d_q8) rfl
 have F_q8:Fun K "_law_drawn" "_law_drawn" s_q8 _ fd_q8:=He5.fun_of D_q8
 have m_q8:=He.glo_ok X G (c.fact 48 (f:=.glo "_law_drawn") rfl)
 have b_q8:=F_q8.binds (ps:=["_law_purse_here"]) fun _ _ _ _ _ _ us hl=>match us,hl with | [_],_=>rfl
 obtain ⟨fd_q11,D_q11⟩:=c.def_ 49 (d:=zff) rfl
 have F_q11:Fun K "_law_kinds" "_law_kinds" z56 _ fd_q11:=He5.fun_of D_q11
 have m_q11:=He.glo_ok X G (c.fact 49 (f:=.glo "_law_kinds") rfl)
 have b_q11:=F_q11.binds (ps:=["_law_purse_here"]) fun _ _ _ _ _ _ us hl=>match us,hl with | [_],_=>rfl
 obtain ⟨fd_q18,D_q18⟩:=c.def_ 50 (d:=zep) rfl
 have F_q18:Fun K "_law_stands" "_law_stands" z5x _ fd_q18:=He5.fun_of D_q18
 have m_q18:=He.glo_ok X G (c.fact 50 (f:=.glo "_law_stands") rfl)
 have b_q18:=F_q18.binds (ps:=["_law_grove_here"]) fun _ _ _ _ _ _ us hl=>match us,hl with | [_],_=>rfl
 obtain ⟨fd_q16,D_q16⟩:=c.def_ 51 (d:=zf7) rfl
 have F_q16:Fun K "_law_reached" "_law_reached" z3n _ fd_q16:=He5.fun_of D_q16
 have m_q16:=He.glo_ok X G (c.fact 51 (f:=.glo "_law_reached") rfl)
 have b_q16:=F_q16.binds (ps:=["_law_kinds_here","_law_name"]) fun _ _ _ _ _ _ us hl=>match us,hl with | [_,_],_=>rfl
 obtain ⟨fd_q9,D_q9⟩:=c.def_ 52 (d:=d_q9) rfl
 have F_q9:Fun K "_law_endless" "_law_endless" s_q9 _ fd_q9:=He5.fun_of D_q9
 have m_q9:=He.glo_ok X G (c.fact 52 (f:=.glo "_law_endless") rfl)
 have b_q9:=F_q9.binds (ps:=["_law_kinds_here"]) fun _ _ _ _ _ _ us hl=>match us,hl with | [_],_=>rfl
 obtain ⟨fd_q19,D_q19⟩:=c.def_ 53 (d:=ze3) rfl
 have F_q19:Fun K "_law_word" "_law_word" z5v _ fd_q19:=He5.fun_of D_q19
 have m_q19:=He.glo_ok X G (c.fact 53 (f:=.glo "_law_word") rfl)
 have b_q19:=F_q19.binds (ps:=["_law_ladder"]) fun _ _ _ _ _ _ us hl=>match us,hl with | [_],_=>rfl
 obtain ⟨fd_q17,D_q17⟩:=c.def_ 54 (d:=ze0) rfl
 have F_q17:Fun K "_law_refused" "_law_refused" z5g _ fd_q17:=He5.fun_of D_q17
 have m_q17:=He.glo_ok X G (c.fact 54 (f:=.glo "_law_refused") rfl)
 have b_q17:=F_q17.binds (ps:=["_law_book","_law_kind"]) fun _ _ _ _ _ _ us hl=>match us,hl with | [_,_],_=>rfl
 obtain ⟨fd_q13,D_q13⟩:=c.def_ 55 (d:=ze9) rfl
 have F_q13:Fun K "_law_needed" "_law_needed" z3e _ fd_q13:=He5.fun_of D_q13
 have m_q13:=He.glo_ok X G (c.fact 55 (f:=.glo "_law_needed") rfl)
 have b_q13:=F_q13.binds (ps:=["_law_book","_law_kinds_here"]) fun _ _ _ _ _ _ us hl=>match us,hl with | [_,_],_=>rfl
 obtain ⟨fd_q43,D_q43⟩:=c.def_ 56 (d:=zdt) rfl
 have F_q43:Fun K "law" "law" z3o _ fd_q43:=He5.fun_of D_q43
 have m_q43:=He.glo_ok X G (c.fact 56 (f:=.glo "law") rfl)
 obtain ⟨fd_q5,D_q5⟩:=c.def_ 57 (d:=d_q5) rfl
 have F_q5:Fun K "__init__" "NoKind.__init__" s_q5 _ fd_q5:=He5.fun_of D_q5
 have b_q5:=F_q5.binds (ps:=["self","kind"]) fun _ _ _ _ _ _ us hl=>match us,hl with | [_,_],_=>rfl
 obtain ⟨fd_q4,D_q4⟩:=c.def_ 58 (d:=d_q4) rfl
 have F_q4:Fun K "__init__" "Endless.__init__" s_q4 _ fd_q4:=He5.fun_of D_q4
 have b_q4:=F_q4.binds (ps:=["self","kind"]) fun _ _ _ _ _ _ us hl=>match us,hl with | [_,_],_=>rfl
 obtain ⟨fd_q0,D_q0⟩:=c.def_ 59 (d:=d_q0) rfl
 have F_q0:Fun K "__init__" "Book.__init__" s_q0 _ fd_q0:=He5.fun_of D_q0
 have b_q0:=F_q0.binds (ps:=["self","kinds"]) fun _ _ _ _ _ _ us hl=>match us,hl with | [_,_],_=>rfl
 obtain ⟨fd_q1,D_q1⟩:=c.def_ 60 (d:=d_q1) rfl
 have F_q1:Fun K "names" "Book.names" s_q1 _ fd_q1:=He5.fun_of D_q1
 have b_q1:=F_q1.binds (ps:=["self"]) fun _ _ _ _ _ _ us hl=>match us,hl with | [_],_=>rfl
 obtain ⟨fd_q3,D_q3⟩:=c.def_ 61 (d:=d_q3) rfl
 have F_q3:Fun K "spreads" "Book.spreads" s_q3 _ fd_q3:=He5.fun_of D_q3
 have b_q3:=F_q3.binds (ps:=["self","name"]) fun _ _ _ _ _ _ us hl=>match us,hl with | [_,_],_=>rfl
 obtain ⟨fd_q2,D_q2⟩:=c.def_ 62 (d:=d_q2) rfl
 have F_q2:Fun K "rules" "Book.rules" s_q2 _ fd_q2:=He5.fun_of D_q2
 have b_q2:=F_q2.binds (ps:=["self","name"]) fun _ _ _ _ _ _ us hl=>match us,hl with | [_,_],_=>rfl
 have B:BI mg:=⟨He.free_ok X G (c.fact 57 (f:=.free "len") rfl),He.free_ok X G (c.fact 58 (f:=.free "isinstance") rfl),He.free_ok X G (c.fact 59 (f:=.free "int") rfl),He.free_ok X G (c.fact 60 (f:=.free "bool") rfl),He.free_ok X G (c.fact 61 (f:=.free "str") rfl),He.free_ok X G (c.fact 62 (f:=.free "tuple") rfl),He.free_ok X G (c.fact 63 (f:=.free "list") rfl),He.free_ok X G (c.fact 64 (f:=.free "all") rfl),He.free_ok X G (c.fact 65 (f:=.free "zip") rfl),He.free_ok X G (c.fact 66 (f:=.free "sum") rfl),He.free_ok X G (c.fact 67 (f:=.free "max") rfl),He.free_ok X G (c.fact 68 (f:=.free "range") rfl),He.free_ok X G (c.fact 69 (f:=.free "enumerate") rfl),He.free_ok X G (c.fact 70 (f:=.free "abs") rfl),He.free_ok X G (c.fact 71 (f:=.free "sorted") rfl),He.free_ok X G (c.fact 72 (f:=.free "min") rfl),He.free_ok X G (c.fact 73 (f:=.free "reversed") rfl),He.free_ok X G (c.fact 74 (f:=.free "any") rfl),He.free_ok X G (c.fact 75 (f:=.free "set") rfl),He.free_ok X G (c.fact 76 (f:=.free "dict") rfl),He.free_ok X G (c.fact 77 (f:=.free "repr") rfl)⟩
 obtain ⟨xk_NoKind,cx⟩:=He.ba cx
 obtain ⟨xk_Endless,cx⟩:=He.ba cx
 obtain ⟨xt_NO_GROVES,cx⟩:=He.ba cx
 have W_NO_GROVES:=zg0 xt_NO_GROVES
 obtain ⟨xt_SORTS,cx⟩:=He.ba cx
 have W_SORTS:=zbf xt_SORTS (by decide)
 have T:ErrsM K mg (He.ga K) eC eN eK:=zfo cx (fun n hn=>by
   rcases List.mem_cons.mp hn with e | hn
   ·rw [e]; exact He.glo_ok X G (c.fact 80 (f:=.glo "NoLadder") rfl)
   rcases List.mem_cons.mp hn with e | hn
   ·rw [e]; exact He.glo_ok X G (c.fact 81 (f:=.glo "NoRest") rfl)
   rcases List.mem_cons.mp hn with e | hn
   ·rw [e]; exact He.glo_ok X G (c.fact 82 (f:=.glo "NoGrove") rfl)
   rcases List.mem_cons.mp hn with e | hn
   ·rw [e]; exact He.glo_ok X G (c.fact 83 (f:=.glo "NoPlace") rfl)
   rcases List.mem_cons.mp hn with e | hn
   ·rw [e]; exact He.glo_ok X G (c.fact 84 (f:=.glo "NoBook") rfl)
   rcases List.mem_cons.mp hn with e | hn
   ·rw [e]; exact He.glo_ok X G (c.fact 85 (f:=.glo "NoKind") rfl)
   rcases List.mem_cons.mp hn with e | hn
   ·rw [e]; exact He.glo_ok X G (c.fact 86 (f:=.glo "NoRule") rfl)
   rcases List.mem_cons.mp hn with e | hn
   ·rw [e]; exact He.glo_ok X G (c.fact 87 (f:=.glo "NoNumber") rfl)
   rcases List.mem_cons.mp hn with e | hn
   ·rw [e]; exact He.glo_ok X G (c.fact 88 (f:=.glo "TooGreat") rfl)
   rcases List.mem_cons.mp hn with e | hn
   ·rw [e]; exact He.glo_ok X G (c.fact 89 (f:=.glo "NoRise") rfl)
   rcases List.mem_cons.mp hn with e | hn
   ·rw [e]; exact He.glo_ok X G (c.fact 90 (f:=.glo "NoFall") rfl)
   rcases List.mem_cons.mp hn with e | hn
   ·rw [e]; exact He.glo_ok X G (c.fact 91 (f:=.glo "Endless") rfl)
   rcases List.mem_cons.mp hn with e | hn
   ·rw [e]; exact He.glo_ok X G (c.fact 92 (f:=.glo "NotEndless") rfl)
   rcases List.mem_cons.mp hn with e | hn
   ·rw [e]; exact He.glo_ok X G (c.fact 93 (f:=.glo "NoWorths") rfl)
   rcases List.mem_cons.mp hn with e | hn
   ·rw [e]; exact He.glo_ok X G (c.fact 94 (f:=.glo "NoDrop") rfl)
   rcases List.mem_cons.mp hn with e | hn
   ·rw [e]; exact He.glo_ok X G (c.fact 95 (f:=.glo "NoReach") rfl)
   rcases List.mem_cons.mp hn with e | hn
   ·rw [e]; exact He.glo_ok X G (c.fact 96 (f:=.glo "TooLong") rfl)
   rcases List.mem_cons.mp hn with e | hn
   ·rw [e]; exact He.glo_ok X G (c.fact 97 (f:=.glo "NoRow") rfl)
   rcases List.mem_cons.mp hn with e | hn
   ·rw [e]; exact He.glo_ok X G (c.fact 98 (f:=.glo "NoName") rfl)
   exact nomatch hn) (He.glo_ok X G (c.fact 78 (f:=.glo "FellError") rfl)) (He.free_ok X G (c.fact 79 (f:=.free "ValueError") rfl)) (fun n hn=>by
   rcases List.mem_cons.mp hn with e | hn
   ·rw [e]; exact He.noat_ok (c.fact 99 (f:=.noat "Endless" "kind") rfl)
   exact nomatch hn)
 have L_LETTERS:=He.str_ok X G (c.fact 100 (f:=.str "LETTERS" "abcdefghijklmnopqrstuvwxyz") rfl)
 have L_LONGEST_NAME:=He.int_ok X G (c.fact 101 (f:=.int "LONGEST_NAME" (8)) rfl)
 have L_MOST_KINDS:=He.int_ok X G (c.fact 102 (f:=.int "MOST_KINDS" (8)) rfl)
 have L_MOST_RULES:=He.int_ok X G (c.fact 103 (f:=.int "MOST_RULES" (4)) rfl)
 have L_MOST_RULE_PARTS:=He.int_ok X G (c.fact 104 (f:=.int "MOST_RULE_PARTS" (4)) rfl)
 have L_MOST_MANY:=He.int_ok X G (c.fact 105 (f:=.int "MOST_MANY" (1000000000)) rfl)
 have V_NO_GROVES:=He.glo_ok X G (c.fact 106 (f:=.glo "NO_GROVES") rfl)
 have V_SORTS:=He.glo_ok X G (c.fact 107 (f:=.glo "SORTS") rfl)
 have O_NoBook:Own K mg "NoBook" (He.ga K "NoBook"):=by
  obtain ⟨y1,y2,y3,y4⟩:=He.exc_ok (c.fact 108 (f:=.exc "NoBook") rfl)
  exact ⟨He.glo_ok X G (c.fact 84 (f:=.glo "NoBook") rfl),y1,y2,y3,y4⟩
 have O_NoPlace:Own K mg "NoPlace" (He.ga K "NoPlace"):=by
  obtain ⟨y1,y2,y3,y4⟩:=He.exc_ok (c.fact 109 (f:=.exc "NoPlace") rfl)
  exact ⟨He.glo_ok X G (c.fact 83 (f:=.glo "NoPlace") rfl),y1,y2,y3,y4⟩
 have m_NoKind:=He.glo_ok X G (c.fact 85 (f:=.glo "NoKind") rfl)
 have h_NoKind:=He.meth_ok (c.fact 110 (f:=.meth "NoKind" "__init__") rfl)
 have n_NoKind:=He.noat_ok (c.fact 111 (f:=.noat "NoKind" "kind") rfl)
 have m_Endless:=He.glo_ok X G (c.fact 91 (f:=.glo "Endless") rfl)
 have h_Endless:=He.meth_ok (c.fact 112 (f:=.meth "Endless" "__init__") rfl)
 have n_Endless:=He.noat_ok (c.fact 99 (f:=.noat "Endless" "kind") rfl)
 have m_Book:=He.glo_ok X G (c.fact 113 (f:=.glo "Book") rfl)
 have c_Book:=He.cls_ok (c.fact 114 (f:=.cls "Book") rfl)
 have T_Book:ClsF K (He.ga K "Book") ["spread_by_name","rows_by_name"]:=⟨c_Book,fun f hf=>by
   rcases List.mem_cons.mp hf with e | hf
   ·rw [e]; exact He.noat_ok (c.fact 115 (f:=.noat "Book" "spread_by_name") rfl)
   rcases List.mem_cons.mp hf with e | hf
   ·rw [e]; exact He.noat_ok (c.fact 116 (f:=.noat "Book" "rows_by_name") rfl)
   exact nomatch hf⟩
 have h_q0:=He.mkr_ok (c.fact 117 (f:=.mkr "Book") rfl)
 have h_q1:=He.meth_ok (c.fact 118 (f:=.meth "Book" "names") rfl)
 have h_q3:=He.meth_ok (c.fact 119 (f:=.meth "Book" "spreads") rfl)
 have h_q2:=He.meth_ok (c.fact 120 (f:=.meth "Book" "rules") rfl)
 have e:=hfa.symm.trans m_q43
 cases e
 have b:=FunD.bindsA (ps:=["_law_script"]) D_q43 fun _ _ _ _ _ _ us hl=>match us,hl with | [_],_=>rfl
 refine ⟨fd_q43,fun s v=>b s [v] rfl,fun base _ _=>?_⟩
 have g_q40:Got P w K mg base "is_whole" ["thing"] 1 (z5q K):=⟨_,_,zib B F_q40,F_q40.kp,b_q40,m_q40⟩
 have g_q34:Got P w K mg base "is_many" ["thing"] 2 (z6z K []):=⟨_,_,ziu B g_q40 F_q34,F_q34.kp,b_q34,m_q34⟩
 have g_q36:Got P w K mg base "is_rising" ["things"] 1 (z6b K):=⟨_,_,zhk B F_q36,F_q36.kp,b_q36,m_q36⟩
 have g_q56:Got P w K mg base "run_of" ["text","at","signs"] 1 (z74 K):=⟨_,_,ziq B F_q56,F_q56.kp,b_q56,m_q56⟩
 have g_q35:Got P w K mg base "is_name" ["thing"] 2 (z72 K):=⟨_,_,zhm B L_LETTERS L_LONGEST_NAME g_q56 F_q35,F_q35.kp,b_q35,m_q35⟩
 have r_grove:∀ n,Got P w K mg base "is_tree" ["thing"] (n+3) (z1f K n)/\Got P w K mg base "is_grove" ["thing"] (n+3) (z1c K n)/\Got P w K mg base "are_grove_pairs" ["things"] (n+3) (z1j K true n):=by
  intro n
  induction n with
  | zero=>exact ⟨⟨_,_,zc2,F_q39.kp,b_q39,m_q39⟩,⟨_,_,zd3,F_q31.kp,b_q31,m_q31⟩,⟨_,_,zd1,F_q23.kp,b_q23,m_q23⟩⟩
  | succ n ih=>exact ⟨⟨_,_,zid B g_q35 ih.2.1 F_q39,F_q39.kp,b_q39,m_q39⟩,⟨_,_,zhy B g_q36 ih.2.2 F_q31,F_q31.kp,b_q31,m_q31⟩,⟨_,_,zgy B g_q34 ih.1 F_q23,F_q23.kp,b_q23,m_q23⟩⟩
 have g_q39:Got P w K mg base "is_tree" ["thing"] 84 (z1f K 81):=(r_grove 81).1
 have g_q31:Got P w K mg base "is_grove" ["thing"] 84 (z1c K 81):=(r_grove 81).2.1
 have gL_are_grove_pairs:Got P w K mg base "are_grove_pairs" ["things"] 63 (z1j K false 60):=⟨_,_,z4m B g_q34 (r_grove 59).1 F_q23,F_q23.kp,b_q23,m_q23⟩
 have g_q48:Got P w K mg base "number" ["many"] 1 (z2c K):=⟨_,_,zhz F_q48,F_q48.kp,b_q48,m_q48⟩
 have g_q33:Got P w K mg base "is_less" ["one","other"] 1 (z1t K):=⟨_,_,zhl F_q33,F_q33.kp,b_q33,m_q33⟩
 have g_q52:Got P w K mg base "power" ["ladder"] 1 (z55 K):=⟨_,_,zi5 F_q52,F_q52.kp,b_q52,m_q52⟩
 have r_q51:∀ n,Got P w K mg base "pairs_within" ["grove"] (n) (z1h K n):=by
  intro n
  induction n with
  | zero=>exact ⟨_,_,zcn,F_q51.kp,b_q51,m_q51⟩
  | succ n ih=>exact ⟨_,_,zhx ih F_q51,F_q51.kp,b_q51,m_q51⟩
 have g_q51:=r_q51 70
 have g_q62:GotX P w K mg base "tree_at" ["grove","place"] 2 (z3f K (He.ga K "NoPlace")):=⟨_,_,zh9 B O_NoPlace g_q40 F_q62,F_q62.kp,b_q62,m_q62⟩
 have g_q6:Got P w K mg base "_law_at" ["_law_script","_law_k"] 1 (spAt K):=⟨_,_,zax B F_q6,F_q6.kp,b_q6,m_q6⟩
 have g_q15:Got P w K mg base "_law_purse" ["_law_cell","_law_salt"] 1 (z7d):=⟨_,_,z8z B F_q15,F_q15.kp,b_q15,m_q15⟩
 have g_q7:Got P w K mg base "_law_draw" ["_law_purse_here","_law_many"] 1 (z13):=⟨_,_,z9e F_q7,F_q7.kp,b_q7,m_q7⟩
 have g_q46:Got P w K mg base "many_at" ["pairs","thing"] 1 (z6f K):=⟨_,_,zhp B F_q46,F_q46.kp,b_q46,m_q46⟩
 have g_q25:Got P w K mg base "behind" ["one","other"] 2 (z26 K):=⟨_,_,zit B g_q33 g_q46 F_q25,F_q25.kp,b_q25,m_q25⟩
 have g_q41:Got P w K mg base "joined" ["pairs"] 1 (z41 K Lad.enc):=⟨_,_,zbu Lad.noList_enc Lad.eqv_enc B F_q41,F_q41.kp,b_q41,m_q41⟩
 have gG_q41:Got P w K mg base "joined" ["pairs"] 1 (z41 K Gr.tEnc):=⟨_,_,zbu Gr.noList_tEnc (Orderly.eq (enc:=Gr.tEnc)) B F_q41,F_q41.kp,b_q41,m_q41⟩
 have g_q22:Got P w K mg base "all_together" ["some"] 2 (z71 K):=⟨_,_,zif B g_q41 F_q22,F_q22.kp,b_q22,m_q22⟩
 have g_q26:Got P w K mg base "both" ["one","other"] 3 (z8t K):=⟨_,_,zih g_q22 F_q26,F_q26.kp,b_q26,m_q26⟩
 have g_q20:Got P w K mg base "above" ["one","other"] 4 (z7k K):=⟨_,_,zhv B g_q33 g_q48 g_q52 g_q25 g_q26 F_q20,F_q20.kp,b_q20,m_q20⟩
 have g_q59:Got P w K mg base "spread" ["one","other"] 3 (z6c K):=⟨_,_,ziv g_q52 g_q25 F_q59,F_q59.kp,b_q59,m_q59⟩
 have g_q47:Got P w K mg base "many_of" ["ladder","many"] 1 (z3k K):=⟨_,_,zhr B F_q47,F_q47.kp,b_q47,m_q47⟩
 have r_q21:∀ n,Got P w K mg base "all_places" ["grove"] (n) (z2w K n):=by
  intro n
  induction n with
  | zero=>exact ⟨_,_,zcr,F_q21.kp,b_q21,m_q21⟩
  | succ n ih=>exact ⟨_,_,zia B ih F_q21,F_q21.kp,b_q21,m_q21⟩
 have g_q21:Got P w K mg base "all_places" ["grove"] (20) (z2w K 20):=r_q21 20
 have O_NoKind:OwnI P w K mg base "NoKind" (He.ga K "NoKind") 1:=⟨m_NoKind,z8q xk_NoKind,n_NoKind,⟨_,_,h_NoKind.at_,beq_iff_eq.mp h_NoKind.fn,zjj F_q5,b_q5⟩⟩
 have g_q1:GotM P w K mg base (He.ga K "Book") "names" ["self"] (1) (z1k K (He.ga K "Book")):=⟨_,_,zjo B T_Book F_q1,h_q1,b_q1,c_Book⟩
 have g_q27:GotX P w K mg base "check_kind" ["book","name"] (3) (z28 K (He.ga K "Book") (He.ga K "NoKind")):=⟨_,_,zie B O_NoKind g_q1 F_q27,F_q27.kp,b_q27,m_q27⟩
 have g_q2:z4f P w K mg base (He.ga K "Book") "rules" ["self","name"] (4) (z3p K (He.ga K "Book") (He.ga K "NoKind")):=⟨_,_,zj2 B T_Book g_q27 F_q2,h_q2,b_q2,c_Book⟩
 have g_q60:Got P w K mg base "steps_in" ["name","rule","word","grove"] (21) (z4o K):=⟨_,_,zhf B g_q21 g_q62 F_q60,F_q60.kp,b_q60,m_q60⟩
 have g_q61:GotX P w K mg base "steps_of" ["book","name"] (22) (z51 K (He.ga K "Book") (He.ga K "NoKind")):=⟨_,_,zhs B g_q2 g_q60 F_q61,F_q61.kp,b_q61,m_q61⟩
 have g_q45:GotX P w K mg base "leads" ["book","name"] (23) (z5h K (He.ga K "Book") (He.ga K "NoKind")):=⟨_,_,zht B g_q61 F_q45,F_q45.kp,b_q45,m_q45⟩
 have g_q44:Got P w K mg base "lead_into" ["led","ending"] (1) (z4e K):=⟨_,_,zgn B F_q44,F_q44.kp,b_q44,m_q44⟩
 have g_q29:Got P w K mg base "ending_kinds" ["book"] (24) (z2m K (He.ga K "Book") (He.ga K "NoKind")):=⟨_,_,zhn B g_q1 g_q45 g_q44 F_q29,F_q29.kp,b_q29,m_q29⟩
 have g_q30:Got P w K mg base "endless_kinds" ["book"] (25) (z4x K (He.ga K "Book") (He.ga K "NoKind")):=⟨_,_,zir B g_q29 g_q1 F_q30,F_q30.kp,b_q30,m_q30⟩
 have g_q55:GotX P w K mg base "rules_from_nought" ["book","name"] (5) (z6n K (He.ga K "Book") (He.ga K "NoKind")):=⟨_,_,zgo B V_NO_GROVES W_NO_GROVES g_q2 F_q55,F_q55.kp,b_q55,m_q55⟩
 have g_q37:Got P w K mg base "is_rule" ["thing"] (85) (z3h K):=⟨_,_,zhi B L_MOST_RULE_PARTS L_MOST_MANY g_q31 g_q51 F_q37,F_q37.kp,b_q37,m_q37⟩
 have g_q32:Got P w K mg base "is_kind" ["thing"] (86) (z6l K):=⟨_,_,zix B L_MOST_RULES g_q35 g_q37 F_q32,F_q32.kp,b_q32,m_q32⟩
 have g_q38:Got P w K mg base "is_rule_of" ["rule","names"] (71) (z1z K):=⟨_,_,zhb B g_q51 F_q38,F_q38.kp,b_q38,m_q38⟩
 have g_q24:Got P w K mg base "are_kinds" ["things"] (87) (z3g K):=⟨_,_,zi9 B L_MOST_KINDS g_q32 g_q38 F_q24,F_q24.kp,b_q24,m_q24⟩
 have O_Endless:OwnI P w K mg base "Endless" (He.ga K "Endless") 1:=⟨m_Endless,z8q xk_Endless,n_Endless,⟨_,_,h_Endless.at_,beq_iff_eq.mp h_Endless.fn,zjq F_q4,b_q4⟩⟩
 have g_q3:z4f P w K mg base (He.ga K "Book") "spreads" ["self","name"] (4) (z44 K (He.ga K "Book") (He.ga K "NoKind")):=⟨_,_,zj3 B T_Book g_q27 F_q3,h_q3,b_q3,c_Book⟩
 have g_q42:Got P w K mg base "laden" ["book","kind","own","inner"] (5) (z7h K (He.ga K "Book")):=⟨_,_,zi7 B g_q3 g_q59 g_q25 F_q42,F_q42.kp,b_q42,m_q42⟩
 have r_reck:∀ n,Got P w K mg base "reckoned" ["book","worths","grove"] (2*n+5) (z31 K (He.ga K "Book") n):=by
  intro n
  induction n with
  | zero=>exact ⟨_,_,zbh,F_q53.kp,b_q53,m_q53⟩
  | succ n ih =>
   have h1:Got P w K mg base "reckoned_tree" ["book","worths","tree"] (2*n+6) (z2x K (He.ga K "Book") n):=⟨_,_,zbk B g_q42 ih F_q54,F_q54.kp,b_q54,m_q54⟩
   exact ⟨_,_,zh7 B g_q22 g_q47 h1 F_q53,F_q53.kp,b_q53,m_q53⟩
 have g_q53:Got P w K mg base "reckoned" ["book","worths","grove"] 45 (z31 K (He.ga K "Book") 20):=r_reck 20
 have g_q54:Got P w K mg base "reckoned_tree" ["book","worths","tree"] 46 (z2x K (He.ga K "Book") 20):=⟨_,_,zbk (n:=20) B g_q42 g_q53 F_q54,F_q54.kp,b_q54,m_q54⟩
 have g_q28:Got P w K mg base "climb" ["book","worths","rule"] (46) (z5f K (He.ga K "Book")):=⟨_,_,zgr B g_q20 g_q53 F_q28,F_q28.kp,b_q28,m_q28⟩
 have g_q50:Got P w K mg base "own_ranks" ["book"] (47) (z1u K (He.ga K "Book") (He.ga K "NoKind")):=⟨_,_,zgu B g_q29 g_q55 g_q28 F_q50,F_q50.kp,b_q50,m_q50⟩
 have g_q49:GotX P w K mg base "own_rank" ["book","name"] (74) (z2h K (He.ga K "Book") (He.ga K "NoKind") (He.ga K "Endless")):=⟨_,_,zh8 B O_Endless g_q27 g_q50 F_q49,F_q49.kp,b_q49,m_q49⟩
 have r_q58:∀ n,Got P w K mg base "sort_of" ["ladder"] (n+1) (z12 K n):=by
  intro n
  induction n with
  | zero=>exact ⟨_,_,zcb,F_q58.kp,b_q58,m_q58⟩
  | succ n ih=>exact ⟨_,_,zhw B g_q33 g_q48 ih F_q58,F_q58.kp,b_q58,m_q58⟩
 have g_q58:Got P w K mg base "sort_of" ["ladder"] (20+1) (z12 K 20):=r_q58 20
 have g_q57:GotX P w K mg base "sort_needed" ["book"] (75) (z35 K (He.ga K "Book") (He.ga K "NoKind") (He.ga K "Endless")):=⟨_,_,zi2 B O_Endless V_SORTS W_SORTS g_q30 g_q50 g_q1 g_q58 F_q57,F_q57.kp,b_q57,m_q57⟩
 have g_q12:Got P w K mg base "_law_names" ["_law_purse_here","_law_many"] (2) (z3u K):=⟨_,_,zin B g_q7 F_q12,F_q12.kp,b_q12,m_q12⟩
 have r_q10:∀ n,Got P w K mg base "_law_grove" ["_law_purse_here","_law_names_here","_law_under","_law_left"] (n+1) (z1g K n):=by
  intro n
  induction n with
  | zero=>exact ⟨_,_,zd2,F_q10.kp,b_q10,m_q10⟩
  | succ n ih=>exact ⟨_,_,zgq B g_q7 ih F_q10,F_q10.kp,b_q10,m_q10⟩
 have g_q10:Got P w K mg base "_law_grove" ["_law_purse_here","_law_names_here","_law_under","_law_left"] (4+1) (z1g K 4):=r_q10 4
 have g_q14:Got P w K mg base "_law_planted" ["_law_purse_here"] (6) (z0s K):=⟨_,_,zhj B g_q12 g_q7 F_q14,F_q14.kp,b_q14,m_q14⟩
 have g_q8:Got P w K mg base "_law_drawn" ["_law_purse_here"] (16) (z0s K):=⟨_,_,zjd B g_q7 g_q12 g_q10 F_q8,F_q8.kp,b_q8,m_q8⟩
 have g_q11:Got P w K mg base "_law_kinds" ["_law_purse_here"] (18) (z0s K):=⟨_,_,zh1 B g_q7 g_q14 g_q8 F_q11,F_q11.kp,b_q11,m_q11⟩
 have r_q18:∀ n,Got P w K mg base "_law_stands" ["_law_grove_here"] (n) (z21 K n):=by
  intro n
  induction n with
  | zero=>exact ⟨_,_,zci,F_q18.kp,b_q18,m_q18⟩
  | succ n ih=>exact ⟨_,_,zig B ih F_q18,F_q18.kp,b_q18,m_q18⟩
 have g_q18:Got P w K mg base "_law_stands" ["_law_grove_here"] (20) (z21 K 20):=r_q18 20
 have g_q16:Got P w K mg base "_law_reached" ["_law_kinds_here","_law_name"] (21) (z3q K):=⟨_,_,zii B g_q18 F_q16,F_q16.kp,b_q16,m_q16⟩
 have g_q9:Got P w K mg base "_law_endless" ["_law_kinds_here"] (22) (z7a K):=⟨_,_,zju B g_q16 F_q9,F_q9.kp,b_q9,m_q9⟩
 have g_q19:Got P w K mg base "_law_word" ["_law_ladder"] (1) (z45 K):=⟨_,_,zhe B F_q19,F_q19.kp,b_q19,m_q19⟩
 have g_q17:Got P w K mg base "_law_refused" ["_law_book","_law_kind"] (76) (z7c K (He.ga K "Book")):=⟨_,_,zgp B T g_q57 F_q17,F_q17.kp,b_q17,m_q17⟩
 have g_q13:Got P w K mg base "_law_needed" ["_law_book","_law_kinds_here"] (77) (z69 K (He.ga K "Book")):=⟨_,_,zgv B g_q19 g_q49 F_q13,F_q13.kp,b_q13,m_q13⟩
 have g_q0:GotI P w K mg base "Book" (He.ga K "Book") ["self","kinds"] (88) (z2z K (He.ga K "Book") (He.ga K "NoBook")):=⟨_,_,zjb B O_NoBook T_Book g_q24 F_q0,h_q0,b_q0,m_Book⟩
 exact zi3 B g_q6 g_q11 g_q15 g_q0 g_q9 g_q17 g_q57 g_q13 F_q43
end FT
open PySem PySem.W PySem.Calls PyProof.Rows
set_option maxRecDepth 100000 in
set_option maxHeartbeats 0 in
theorem PySem.Challenge.cw_felltimber_k72_whole_sorts_needed_holds : PySem.Challenge.rw_felltimber_k72_whole_sorts_needed.Holds := by
 w_on; o_law
 refine HandSHeadRun.head_any (r := OpenLaw.row PySem.Challenge.rw_felltimber_k72_whole_sorts_needed) (q := view (OpenLaw.row PySem.Challenge.rw_felltimber_k72_whole_sorts_needed).prog [97]) (H := FT.hk) (ob := FT.ob) (M := 9000) (loose := FT.loose) (d := HandSHeadRun.topDef (OpenLaw.row PySem.Challenge.rw_felltimber_k72_whole_sorts_needed).prog 97) (kwd := []) FT.ob_eq
  (by kernel_rfl) (fun s => by kernel_rfl) FT.run (by kernel_rfl) (by kernel_rfl) (by kernel_rfl) (by rfl) (by first | assumption | decide +kernel) (by decide +kernel) ⟨rfl, rfl, rfl, rfl, rfl, by decide +kernel⟩ ?hw ?hc
 case hw => w_witness2
 case hc =>
  refine L2.walk_ofE (l := PySem.Challenge.rw_felltimber_k72_whole_sorts_needed) (n := 63) (k := 120) (x := "_law_script") (CX := L2.CX0) rfl (by decide) (by kernel_rfl) ⟨rfl, by decide, by decide⟩ ?F (fun _ _ _ _ z => z)
  intro w mg fa h Y G hmg0
  obtain ⟨K, KX, c, cx⟩ := Y
  have hmg : mg ("law" : PySem.Str) = some (.ref fa) := by
   have e : (HandSHeadRun.topDef (OpenLaw.row PySem.Challenge.rw_felltimber_k72_whole_sorts_needed).prog 97).name = ("law" : PySem.Str) := by kernel_rfl
   rw [<- e]
   exact hmg0
  obtain ⟨fd, hb, hF⟩ := FT.facts (P := (PySem.Challenge.rw_felltimber_k72_whole_sorts_needed).prog) (w := w) KX G hmg c cx
  exact ⟨K, fd, FT.spLaw K, KX, hb, fun H a ns hl _ hS => ⟨a, ns, rfl, hS, hl, fun _ => rfl⟩, hF⟩
