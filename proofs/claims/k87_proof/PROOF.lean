import PyProof.Rows.All
import Wide.All
import OpenK.AllK
import Wide.FinOn
import KE.KStateDown
import KE.SortData
import HandS.ForMost
import HandS.More
import HandS.Walk
import HandS.Zip
import HandS.Style
import HandS.TupAny
import HandS.IsInst
import HandS.Wide
import HandS.Flow
import HandS.WordsExc
import HandS.Defaults
import HandS.Head0
import HandS.Head1
import HandS.Head2
import HandS.HeadEnd
import HandS.HeadHook1
import HandS.HeadHook2
import HandS.HeadNt
import KE.DataCmp
import HandS.SortKw
import PyProof.TupleOfSeq
import HandS.NoneIn
import HandS.ExcIs
import HandS.RevRange
import KE.GoesEnum
import KE.DataAny
import HandS.Conv
import HandS.SortInts
import HandS.FStr
import HandS.Strs
import HandS.TupSets
import HandS.DictComp
import HandS.ExcInit
import HandS.SetKeys
import HandS.SetTxt0
import HandS.SetBool
import HandS.SetFor
import KE.GoesEnumKw
import PyProof.Rows.CallKwBuiltin
import KE.DatumOrd
import HandS.ExcField
import HandS.HotCalls
import HandS.Replace
import HandS.TupLe
import KE.DataMinMax
import PyProof.StrBlock2
import HandS.WordsDict
import HandS.TupMul
import HandS.TryOnly
import PyProof.MaxThree
import PyProof.NeKinds
import HandS.Deep
import HandS.Dict
import PySem.Challenge.RW_felltimber_k87_whole_fewest
set_option Elab.async false
set_option linter.all false
set_option maxRecDepth 100000
set_option maxHeartbeats 4000000
namespace FT
open PySem PySem.W PySem.Spec PyProof.Rows L2
theorem hunT {A:Around} {e:Env} {k:Nat} (hr:Room k (A.deeper e)):A.units+3+200 < cLine:=by
 have:=hr.un
 have h3:(A.deeper e).units=A.units+3:=rfl
 omega
theorem nmn {α:Type} {a:α}:¬ a ∈ ([]:List α):=List.not_mem_nil
theorem mcs {α:Type} {a:α} {l:List α}:a ∈ a::l:=List.mem_cons_self
theorem mcm {α:Type} (y:α) {a:α} {l:List α} (h:a ∈ l):a ∈ y::l:=List.mem_cons_of_mem y h
theorem mal {α:Type} {a:α} {l:List α} (k:List α) (h:a ∈ l):a ∈ l++k:=List.mem_append_left k h
theorem mar {α:Type} {a:α} {l:List α} (k:List α) (h:a ∈ l):a ∈ k++l:=List.mem_append_right k h
structure SB (ps:List Addr) (H H':Hp):Prop where
 keep:∀ b o,H b=some o->b ∉ ps->H' b=some o
 tups:∀ b xs,H b=some (.tup xs)->H' b=some (.tup xs)
 frzs:∀ b o u,H b=some (.frz o u)->H' b=some (.frz o u)
 dom:∀ b,H' b=none->H b=none
section
variable {K:PySem.W.Frag} {ps qs:List Addr} {H H' H1 H2:Hp} {a p:Addr} {xs:List V}
theorem SB.refl:SB ps H H:=⟨fun _ _ h _=>h,fun _ _ h=>h,fun _ _ _ h=>h,fun _ h=>h⟩
theorem SB.trans (a:SB ps H H1) (b:SB ps H1 H2):SB ps H H2 :=
 ⟨fun c o h n=>b.keep c o (a.keep c o h n) n,fun c x h=>b.tups c x (a.tups c x h),fun c o u h=>b.frzs c o u (a.frzs c o u h),fun c h=>a.dom c (b.dom c h)⟩
theorem SB.mono (h:SB ps H H') (hs:∀ b ∈ ps,b ∈ qs):SB qs H H':=⟨fun c o e n=>h.keep c o e fun z=>n (hs c z),h.tups,h.frzs,h.dom⟩
theorem SB.nil (h:SB [] H H'):SB ps H H':=h.mono fun _ z=>absurd z (nmn)
theorem SB.new (h:H p=none) (o:HO):SB ps H (upd H p o):=by
 refine ⟨fun b u e _=>?_,fun b u e=>?_,fun b v u e=>?_,fun b e=>?_⟩
 ·rw [upd_ne (ne_of_none e h)]; exact e
 ·rw [upd_ne (ne_of_none e h)]; exact e
 ·rw [upd_ne (ne_of_none e h)]; exact e
 ·by_cases q:b=p
  ·subst q; exact h
  ·rw [upd_ne q] at e; exact e
theorem SB.set (h:H p=some (.lst xs)) (hp:p ∈ ps) (o:HO):SB ps H (upd H p o):=by
 refine ⟨fun b u e n=>?_,fun b u e=>?_,fun b v u e=>?_,fun b e=>?_⟩
 ·rw [upd_ne (fun (z:b=p)=>n (by rw [z]; exact hp))]; exact e
 ·rw [upd_ne (fun (z:b=p)=>by subst z; rw [h] at e; cases e)]; exact e
 ·rw [upd_ne (fun (z:b=p)=>by subst z; rw [h] at e; cases e)]; exact e
 ·by_cases q:b=p
  ·subst q; rw [upd_same] at e; cases e
  ·rw [upd_ne q] at e; exact e
theorem SB.drop (h:SB (p::ps) H H') (n:H p=none):SB ps H H':=by
 refine ⟨fun b o e m=>h.keep b o e fun z=>?_,h.tups,h.frzs,h.dom⟩
 rcases List.mem_cons.mp z with z | z
 ·subst z; rw [n] at e; cases e
 ·exact m z
theorem SB.sqT (e:SB ps H H') (h:SqT K H a xs):SqT K H' a xs:=by
 rcases h with (h | ⟨o,h⟩) | h
 ·exact .inl (.inl (e.tups _ _ h))
 ·exact .inl (.inr ⟨o,e.frzs _ _ _ h⟩)
 ·exact .inr h
theorem SB.sqL (e:SB ps H H') (n:a ∉ ps) (h:SqL K H a xs):SqL K H' a xs:=by
 rcases h with (h | ⟨o,h⟩) | h
 ·exact .inl (.inl (e.keep _ _ h n))
 ·exact .inl (.inr ⟨o,e.frzs _ _ _ h⟩)
 ·exact .inr h
theorem SB.ne (e:SB ps H H') {b:Addr} {o:HO} (h:H b=some o) {q:Addr} (n:H' q=none):b ≠ q:=fun z=>by
 subst z; rw [e.dom b n] at h; cases h
end
inductive Lad where
 | nil
 | cons (e:Lad) (m:Int) (r:Lad)
 deriving DecidableEq
namespace Lad
def encs:Lad->List PyData
 | .nil=>[]
 | .cons e m r=>.tuple [.tuple e.encs,.int m]::r.encs
def enc (l:Lad):PyData:=.tuple l.encs
def parts:Lad->Nat
 | .nil=>0
 | .cons e _ r=>1+e.parts+r.parts
def deep:Lad->Nat
 | .nil=>0
 | .cons e _ r=>max (1+e.deep) r.deep
def len:Lad->Nat
 | .nil=>0
 | .cons _ _ r=>1+r.len
theorem encs_length:∀ l:Lad,l.encs.length=l.len
 | .nil=>rfl
 | .cons e m r=>by show r.encs.length+1=1+r.len; rw [encs_length r,Nat.add_comm]
theorem len_parts:∀ l:Lad,l.len<=l.parts
 | .nil=>Nat.le_refl _
 | .cons e m r=>by have:=len_parts r; show 1+r.len<=1+e.parts+r.parts; omega
theorem alikes:∀ l k:Lad,alikeAll l.encs k.encs=true
 | .nil,_=>by simp [encs,alikeAll]
 | .cons e m r,.nil=>by simp [encs,alikeAll]
 | .cons e m r,.cons e' m' r'=>by
  have h1:=alikes e e'
  have h2:=alikes r r'
  simp [encs,alikeAll,alike,h1,h2]
theorem alike_enc (l k:Lad):alike l.enc k.enc=true:=by
 show alike (.tuple l.encs) (.tuple k.encs)=true
 rw [alike]; exact alikes l k
theorem encs_depth:∀ l:Lad,PyData.depthAll l.encs<=2*l.deep
 | .nil=>by simp [encs,PyData.depthAll,deep]
 | .cons e m r=>by
  have h1:=encs_depth e
  have h2:=encs_depth r
  simp only [encs,PyData.depthAll,PyData.depth,deep]
  omega
theorem enc_depth (l:Lad):l.enc.depth<=2*l.deep+1:=by
 have:=encs_depth l
 simp only [enc,PyData.depth]
 omega
end Lad
def rLtD (K:PySem.W.Frag):R2:=fun x y H Q=>∃ d e,Dp K H x d/\Dp K H y e/\alike d e=true/\d ≠ .none/\d.depth<=100/\Q (.bl (dataLt d e)) H
section
variable {X:Cx}
theorem zi0 (hu:X.A.units+100 < cLine):OpR X (compareOp .Lt) (rLtD X.K):=by
 intro pins s σ H x y v u Q I rx ry h
 obtain ⟨d,e,hd,he,al,hn,hdp,q⟩:=h
 obtain ⟨as,r1⟩:=Dp.reads I d x v hd rx
 obtain ⟨bs,r2⟩:=Dp.reads I e y u he ry
 exact rcLt_alike d e X.A s v u as bs r1 r2 al hn (by have:=Nat.min_le_left d.depth e.depth; omega) X.prog X.w X.xe _ ⟨.bl _,H,I,rfl,q⟩
end
mutual
def z03:PyData->Bool
 | .list _=>false
 | .dict _=>false
 | .tuple ds=>z05 ds
 | _=>true
def z05:List PyData->Bool
 | []=>true
 | d::ds=>z03 d&&z05 ds
end
section
variable {K:PySem.W.Frag} {ps:List Addr} {H H':Hp}
mutual
theorem z07 (e:SB ps H H'):∀ (d:PyData) (v:V),z03 d=true->Dp K H v d->Dp K H' v d
 | .none,_,_,h=>by cases h; exact .non
 | .bool b,_,_,h=>by cases h; exact .bl b
 | .int i,_,_,h=>by cases h; exact .int i
 | .str x,_,_,h=>by cases h; exact .str x
 | .list ds,_,n,_=>by simp [z03] at n
 | .dict ds,_,n,_=>by simp [z03] at n
 | .tuple ds,_,n,h=>by
  cases h with
  | tup hs ha=>exact .tup (e.sqT hs) (z6l e ds _ (by simpa [z03] using n) ha)
theorem z6l (e:SB ps H H'):∀ (ds:List PyData) (vs:List V),z05 ds=true->DpAll K H vs ds->DpAll K H' vs ds
 | [],_,_,h=>by cases h; exact .nil
 | d::ds,_,n,h=>by
  cases h with
  | cons h1 h2 =>
   simp [z05] at n
   exact .cons (z07 e d _ n.1 h1) (z6l e ds _ n.2 h2)
end
end
theorem Lad.noLists_encs:∀ l:Lad,z05 l.encs=true
 | .nil=>by simp [Lad.encs,z05]
 | .cons e m r=>by simp [Lad.encs,z05,z03,Lad.noLists_encs e,Lad.noLists_encs r]
theorem Lad.noList_enc (l:Lad):z03 l.enc=true:=by simp [Lad.enc,z03,Lad.noLists_encs l]
/-- at v stands the ladder l -/
def LA (K:PySem.W.Frag) (H:Hp) (v:V) (l:Lad):Prop:=Dp K H v l.enc
section
variable {K:PySem.W.Frag} {ps:List Addr} {H H':Hp} {v:V} {l:Lad}
theorem LA.sb (h:LA K H v l) (e:SB ps H H'):LA K H' v l:=z07 e _ _ l.noList_enc h
theorem LA.tup (h:LA K H v l):∃ a xs,v=.ref a/\SqT K H a xs/\DpAll K H xs l.encs:=by
 have h':Dp K H v (.tuple l.encs):=h
 cases h' with
 | tup hs ha=>exact ⟨_,_,rfl,hs,ha⟩
theorem DpAll.length:∀ {vs:List V} {ds:List PyData},DpAll K H vs ds->vs.length=ds.length
 | _,_,.nil=>rfl
 | _,_,.cons _ t=>by rw [List.length_cons,List.length_cons,DpAll.length t]
theorem DpAll.get:∀ {vs:List V} {ds:List PyData} {i:Nat} {v:V},DpAll K H vs ds->vs[i]?=some v->∃ d,ds[i]?=some d/\Dp K H v d
 | _,_,_,_,.nil,e=>by simp at e
 | _,_,0,_,.cons h t,e=>by simp at e; subst e; exact ⟨_,rfl,h⟩
 | _,_,i+1,v,.cons h t,e=>by
  obtain ⟨d,h1,h2⟩:=DpAll.get (i:=i) (v:=v) t (by simpa using e)
  exact ⟨d,by simpa using h1,h2⟩
end
structure BI (mg:Str->Option Value):Prop where
 len:mg "len"=none
 isinstance:mg "isinstance"=none
 int:mg "int"=none
 bool:mg "bool"=none
 str:mg "str"=none
 tuple:mg "tuple"=none
 list:mg "list"=none
 all:mg "all"=none
 zip:mg "zip"=none
 sum:mg "sum"=none
 max:mg "max"=none
 range:mg "range"=none
 enumerate:mg "enumerate"=none
 abs:mg "abs"=none
 sorted:mg "sorted"=none
 min:mg "min"=none
 reversed:mg "reversed"=none
 any:mg "any"=none
 set:mg "set"=none
 dict:mg "dict"=none
 repr:mg "repr"=none
structure Got (P:Program) (w:World) (K:PySem.W.Frag) (mg:Str->Option Value) (base:Heap) (x:Str) (ps:List Str) (k:Nat) (sp:Sp):Prop where
 ex:∃ (f:Addr) (fd:FuncData),FnOk P w K mg base CX0 k f fd ps sp/\PySem.W.keepIn K (.ref f)=true/\Binds K fd ps []/\mg x=some (.ref f)
section
variable {X:Cx} {x:Str} {ps:List Str} {k:Nat} {sp:Sp} {e:Expr} {es:List Expr} {t:TA} {p pos:Pos}
theorem z00 (G:Got X.prog X.w X.K X.mg X.base x ps k sp) (hr:Room k X.A) (hg:Gl X x) (ha:PA X (e::es) t) (hdb:(x == ("__debug__":Str))=false:=by decide) (he:starEach (e::es) X.env=(false,eval e X.env)::starEach es X.env:=by rfl) (hpl:(backTo pos (starEach es X.env)).any (·.1)=false:=by rfl) :
  PE X (.Call (.Name x p) (e::es) [] pos) (tCall sp [] E0 t):=by
 obtain ⟨f,fd,h1,h2,h3,h4⟩:=G.ex
 exact pe_call h1 hr hg h4 h2 h3 .nil pass0 ha hdb he hpl
end
def ze1 (K:PySem.W.Frag):List V->Hp->VK->Prop:=fun xs H Q=>∃ (x:V) (T n:String) (b:Bool),xs=[x,.ty T]/\TyX K H x (.type n)/\kitB n T=some b/\Q (.bl b) H
section
variable {X:Cx}
theorem zbv:CallR X (.builtin "isinstance") (ze1 X.K):=by
 intro pins s σ H xs us Q I r h
 obtain ⟨x,T,n,b,rfl,ty,e,q⟩:=h
 exact call_isi pins s σ H _ us Q I r ⟨x,.ty T,.type n,.type T,b,rfl,.ty T,ty,kit_ty e,q⟩
theorem zj4 {T:Str} {T':String} {pos:Pos} (hg:Gl X T) (hm:X.mg T=none) (hv:bootBuiltins T=some (.type T')) (hn:T ≠ "__name__":=by decide) (hd:(T == ("__debug__":Str))=false:=by decide):PE X (.Name T pos) (tC (.ty T')):=pe_bltn hg hm hv rfl hn hd
theorem z0z {e:Expr} {te:TE} {T:Str} {T':String} {p p2 pos:Pos} (B:BI X.mg) (he:PE X e te) (hm:X.mg T=none) (hv:bootBuiltins T=some (.type T')) (hg:Gl X "isinstance":=by rfl) (hg2:Gl X T:=by rfl) (hn:T ≠ "__name__":=by decide) (hd:(T == ("__debug__":Str))=false:=by decide)
  (hs:starEach [e,.Name T p2] X.env=(false,eval e X.env)::starEach [.Name T p2] X.env:=by rfl) (hpl:(backTo pos (starEach [.Name T p2] X.env)).any (·.1)=false:=by rfl) :
  PE X (.Call (.Name "isinstance" p) [e,.Name T p2] [] pos) (tCB (ze1 X.K) (tCons te (tCons (tC (.ty T')) tNil))) :=
 pe_callB zbv hg B.isinstance boot_isinstance (pa_cons he (pa_cons (zj4 hg2 hm hv hn hd) pa_nil) hs) (by decide) (by decide) hs hpl
end
mutual
inductive Th (K:PySem.W.Frag) (ps:List Addr) (H:Hp):V->PyData->Prop
 | int (i:Int):Th K ps H (.int i) (.int i)
 | tup {a:Addr} {xs:List V} {ds:List PyData}:SqT K H a xs->ThAll K ps H xs ds->Th K ps H (.ref a) (.tuple ds)
 | oth {v:V} {n:String}:TyX K H v (.type n)->kitB n "tuple"=some false->(kitB n "int"=some false\/n="bool")->(∀ a,v=.ref a->a ∉ ps)->Th K ps H v .none
inductive ThAll (K:PySem.W.Frag) (ps:List Addr) (H:Hp):List V->List PyData->Prop
 | nil:ThAll K ps H [] []
 | cons {v:V} {vs:List V} {d:PyData} {ds:List PyData}:Th K ps H v d->ThAll K ps H vs ds->ThAll K ps H (v::vs) (d::ds)
end
def z0w:PyData->Bool
 | .int i=>decide (1<=i)
 | _=>false
section
variable {K:PySem.W.Frag} {ps:List Addr} {H H':Hp}
theorem z2y {a:Addr} {xs:List V} (h:SqT K H a xs):TyX K H (.ref a) (.type "tuple"):=by
 rcases h with (h | ⟨o,h⟩) | ⟨o,its,n,h,c,_⟩
 ·exact .base (.tup h)
 ·exact .fTuple h
 ·exact .kTuple h c
theorem Th.ty {v:V} {d:PyData} (h:Th K ps H v d):∃ n b,TyX K H v (.type n)/\kitB n "tuple"=some b/\(b=true->∃ a xs ds,v=.ref a/\d=.tuple ds/\SqT K H a xs/\ThAll K ps H xs ds)/\(b=false->(∃ i,d=.int i)\/d=.none):=by
 cases h with
 | int i=>exact ⟨"int",false,.base (.int i),by decide +kernel,fun z=>(nomatch z),fun _=>.inl ⟨i,rfl⟩⟩
 | tup hs ha=>exact ⟨"tuple",true,(z2y hs),by decide +kernel,fun _=>⟨_,_,_,rfl,rfl,hs,ha⟩,fun z=>(nomatch z)⟩
 | oth ty k1 k2 _=>exact ⟨_,false,ty,k1,fun z=>(nomatch z),fun _=>.inr rfl⟩
theorem Th.whole {v:V} {d:PyData} (h:Th K ps H v d):∃ n b1 b2,TyX K H v (.type n)/\kitB n "int"=some b1/\(b1=true->kitB n "bool"=some b2)/\((b1&&!b2)=true->∃ i,v=.int i/\d=.int i)/\((b1&&!b2)=false->z0w d=false):=by
 cases h with
 | int i=>exact ⟨"int",true,false,.base (.int i),by decide +kernel,fun _=>by decide +kernel,fun _=>⟨i,rfl,rfl⟩,fun z=>(nomatch z)⟩
 | tup hs ha=>exact ⟨"tuple",false,false,(z2y hs),by decide +kernel,fun z=>(nomatch z),fun z=>(nomatch z),fun _=>rfl⟩
 | @oth v n ty k1 k2 _ =>
  rcases k2 with k2 | k2
  ·exact ⟨n,false,false,ty,k2,fun z=>(nomatch z),fun z=>(nomatch z),fun _=>rfl⟩
  ·subst k2
   exact ⟨"bool",true,true,ty,by decide +kernel,fun _=>by decide +kernel,fun z=>(nomatch z),fun _=>rfl⟩
theorem ThAll.length:∀ {vs:List V} {ds:List PyData},ThAll K ps H vs ds->vs.length=ds.length
 | _,_,.nil=>rfl
 | _,_,.cons _ t=>by rw [List.length_cons,List.length_cons,ThAll.length t]
theorem ThAll.get:∀ {vs:List V} {ds:List PyData} {i:Nat} {v:V},ThAll K ps H vs ds->vs[i]?=some v->∃ d,ds[i]?=some d/\Th K ps H v d
 | _,_,_,_,.nil,e=>by simp at e
 | _,_,0,_,.cons h t,e=>by simp at e; subst e; exact ⟨_,rfl,h⟩
 | _,_,i+1,v,.cons h t,e=>by
  obtain ⟨d,h1,h2⟩:=ThAll.get (i:=i) (v:=v) t (by simpa using e)
  exact ⟨d,by simpa using h1,h2⟩
theorem z1h {v:V} {n:String} (e:SB ps H H') (hn:∀ a,v=.ref a->a ∉ ps) (h:TyX K H v (.type n)):TyX K H' v (.type n):=by
 cases h with
 | base h =>
  cases h with
  | non=>exact .base .non
  | bl x=>exact .base (.bl x)
  | int i=>exact .base (.int i)
  | str x=>exact .base (.str x)
  | flt x=>exact .base (.flt x)
  | lst h=>exact .base (.lst (e.keep _ _ h (hn _ rfl)))
  | frz h=>exact .base (.frz (e.frzs _ _ _ h))
  | tup h=>exact .base (.tup (e.tups _ _ h))
  | dK h=>exact .base (.dK (e.keep _ _ h (hn _ rfl)))
  | dT h=>exact .base (.dT (e.keep _ _ h (hn _ rfl)))
 | byt b=>exact .byt b
 | set h=>exact .set (e.keep _ _ h (hn _ rfl))
 | kList h c=>exact .kList h c
 | kTuple h c=>exact .kTuple h c
 | kDict h c=>exact .kDict h c
 | fTuple h=>exact .fTuple (e.frzs _ _ _ h)
 | fDict h=>exact .fDict (e.frzs _ _ _ h)
end
/-- the values vs bear the data bs -/
inductive Bears (K:PySem.W.Frag) (H:Hp) {β:Type} (enc:β->PyData):List V->List β->Prop
 | nil:Bears K H enc [] []
 | cons {v:V} {vs:List V} {b:β} {bs:List β}:Dp K H v (enc b)->Bears K H enc vs bs->Bears K H enc (v::vs) (b::bs)
section
variable {K:PySem.W.Frag} {H H':Hp} {β:Type} {enc:β->PyData} {ps:List Addr}
theorem Bears.length:∀ {vs:List V} {bs:List β},Bears K H enc vs bs->vs.length=bs.length
 | _,_,.nil=>rfl
 | _,_,.cons _ t=>by rw [List.length_cons,List.length_cons,Bears.length t]
theorem Bears.dp:∀ {vs:List V} {bs:List β},Bears K H enc vs bs->DpAll K H vs (bs.map enc)
 | _,_,.nil=>.nil
 | _,_,.cons h t=>.cons h (Bears.dp t)
theorem Bears.of:∀ {vs:List V} {bs:List β},DpAll K H vs (bs.map enc)->Bears K H enc vs bs
 | [],[],_=>.nil
 | _::_,[],h=>by cases h
 | [],_::_,h=>by cases h
 | v::vs,b::bs,h=>by
  cases h with
  | cons h1 h2=>exact .cons h1 (Bears.of h2)
theorem Bears.get:∀ {vs:List V} {bs:List β} {i:Nat} {v:V},Bears K H enc vs bs->vs[i]?=some v->∃ b,bs[i]?=some b/\Dp K H v (enc b)
 | _,_,_,_,.nil,e=>by simp at e
 | _,_,0,_,.cons h t,e=>by simp at e; subst e; exact ⟨_,rfl,h⟩
 | _,_,i+1,v,.cons h t,e=>by
  obtain ⟨d,h1,h2⟩:=Bears.get (i:=i) (v:=v) t (by simpa using e)
  exact ⟨d,by simpa using h1,h2⟩
theorem Bears.append:∀ {xs ys:List V} {bs cs:List β},Bears K H enc xs bs->Bears K H enc ys cs->Bears K H enc (xs++ys) (bs++cs)
 | _,_,_,_,.nil,h=>h
 | _,_,_,_,.cons a b,h=>.cons a (Bears.append b h)
theorem Bears.reverse:∀ {xs:List V} {bs:List β},Bears K H enc xs bs->Bears K H enc xs.reverse bs.reverse
 | _,_,.nil=>.nil
 | _,_,.cons a b=>by
  rw [List.reverse_cons,List.reverse_cons]
  exact Bears.append (Bears.reverse b) (.cons a .nil)
theorem Bears.sb (e:SB ps H H') (hn:∀ b,z03 (enc b)=true):∀ {xs:List V} {bs:List β},Bears K H enc xs bs->Bears K H' enc xs bs
 | _,_,.nil=>.nil
 | _,_,.cons a b=>.cons (z07 e _ _ (hn _) a) (Bears.sb e hn b)
theorem Bears.take (n:Nat):∀ {xs:List V} {bs:List β},Bears K H enc xs bs->Bears K H enc (xs.take n) (bs.take n):=by
 induction n with
 | zero=>intro xs bs h; rw [List.take_zero,List.take_zero]; exact .nil
 | succ n ih =>
  intro xs bs h
  cases h with
  | nil=>exact .nil
  | cons a b=>exact .cons a (ih b)
theorem Bears.drop (n:Nat):∀ {xs:List V} {bs:List β},Bears K H enc xs bs->Bears K H enc (xs.drop n) (bs.drop n):=by
 induction n with
 | zero=>intro xs bs h; exact h
 | succ n ih =>
  intro xs bs h
  cases h with
  | nil=>exact .nil
  | cons a b=>exact ih b
end
section
variable {X:Cx} {pins:List (Addr × Obj)} {σ:L2.St} {H:Hp} {s:Shared} {β:Type} {enc:β->PyData}
theorem z35 (I:Inv X pins σ H s):∀ {vs:List V} {us:List Value} {bs:List β},Bears X.K H enc vs bs->Vals vs us ->
  EachIs (fun u b=>∃ v,RelV v u/\Dp X.K H v (enc b)) us bs/\EachIs (fun u b=>∃ as,Reads s.heap u (enc b) as) us bs
 | _,_,_,.nil,.nil=>⟨.nil,.nil⟩
 | _,_,_,.cons h t,.cons r u=>by
  obtain ⟨h1,h2⟩:=z35 I t u
  exact ⟨.cons ⟨_,r,h⟩ h1,.cons (Dp.reads I _ _ _ h r) h2⟩
theorem z39 {K:PySem.W.Frag}:∀ {us:List Value} {bs:List β},EachIs (fun u b=>∃ v,RelV v u/\Dp K H v (enc b)) us bs->∃ vs,Vals vs us/\Bears K H enc vs bs
 | _,_,.nil=>⟨[],.nil,.nil⟩
 | _,_,.cons ⟨v,r,h⟩ t=>by
  obtain ⟨vs,h1,h2⟩:=z39 t
  exact ⟨v::vs,.cons r h1,.cons h h2⟩
end
section
variable {P:Program} {w:World} {K:PySem.W.Frag} {mg:Str->Option Value} {base:Heap} {f:Addr} {fd:FuncData}
def z2f (K:PySem.W.Frag):Sp:=fun vs H Q _=>∃ (v:V) (n:String) (b1 b2:Bool),vs=[v]/\TyX K H v (.type n)/\kitB n "int"=some b1/\(b1=true->kitB n "bool"=some b2)/\Q (.bl (b1&&!b2)) H
def z6q (K:PySem.W.Frag) (ps:List Addr):Sp:=fun vs H Q _=>∃ (v:V) (d:PyData),vs=[v]/\Th K ps H v d/\Q (.bl (z0w d)) H
end
def ltsD:List PyData->List Bool
 | []=>[]
 | [_]=>[]
 | a::b::r=>dataLt a b::ltsD (b::r)
def z31 (ds:List PyData):Bool:=(ltsD ds).all id
theorem z2w:∀ ds:List PyData,(ltsD ds).length=ds.length-1
 | []=>rfl
 | [_]=>rfl
 | a::b::r=>by
  have h:=z2w (b::r)
  show (ltsD (b::r)).length+1=_
  rw [h]; simp
theorem z8y:∀ (ds:List PyData) (i:Nat) (d e:PyData),ds[i]?=some d->ds[i+1]?=some e->(ltsD ds)[i]?=some (dataLt d e)
 | [],_,_,_,h,_=>by simp at h
 | [_],_,_,_,_,h=>by simp at h
 | a::b::r,0,d,e,h1,h2=>by simp at h1 h2; subst h1 h2; rfl
 | a::b::r,i+1,d,e,h1,h2=>by
  have:=z8y (b::r) i d e (by simpa using h1) (by simpa using h2)
  simpa [ltsD] using this
theorem cut1 (xs:List V):cutV xs (some 1) none=xs.drop 1:=by
 unfold cutV
 have h1:HT.sIx xs.length 0 (some 1)=min 1 xs.length:=HT.sIx_nat xs.length 0 1
 have h2:HT.sIx xs.length xs.length none=xs.length:=rfl
 rw [h1,h2]
 cases xs with
 | nil=>rfl
 | cons x r =>
  have:min 1 (x::r).length=1:=by simp
  rw [this]
  simp
section
variable {P:Program} {w:World} {K:PySem.W.Frag} {mg:Str->Option Value} {base:Heap} {f:Addr} {fd:FuncData}
def OkD (d:PyData):Prop:=z03 d=true/\d ≠ .none/\d.depth<=100
def z6h (K:PySem.W.Frag):Sp:=fun vs H Q _=>∃ (a:Addr) (xs:List V) (ds:List PyData),vs=[.ref a]/\SqL K H a xs/\DpAll K H xs ds/\(∀ d ∈ ds,OkD d)/\AllAlike ds/\xs.length<=1000 /\
 ∀ H',SB [] H H'->Q (.bl (z31 ds)) H'
abbrev z8m:List Str:=["things","low","high"]
end
def Lad.num (i:Int):Lad:=if i=0 then .nil else .cons .nil i .nil
def Lad.lt (l k:Lad):Bool:=dataLt l.enc k.enc
namespace Lad
def ps:Lad->List (Lad × Int)
 | .nil=>[]
 | .cons e m r=>(e,m)::r.ps
def ofPs:List (Lad × Int)->Lad
 | []=>.nil
 | (e,m)::r=>.cons e m (ofPs r)
def pEnc (p:Lad × Int):PyData:=.tuple [p.1.enc,.int p.2]
theorem ofPs_ps:∀ l:Lad,ofPs l.ps=l
 | .nil=>rfl
 | .cons e m r=>by show cons e m (ofPs r.ps)=_; rw [ofPs_ps r]
theorem ps_ofPs:∀ l:List (Lad × Int),(ofPs l).ps=l
 | []=>rfl
 | (e,m)::r=>by show (e,m)::(ofPs r).ps=_; rw [ps_ofPs r]
theorem encs_ps:∀ l:Lad,l.encs=l.ps.map pEnc
 | .nil=>rfl
 | .cons e m r=>by show _::r.encs=pEnc (e,m)::r.ps.map pEnc; rw [encs_ps r]; rfl
theorem ps_length (l:Lad):l.ps.length=l.len:=by rw [<- encs_length,encs_ps,List.length_map]
theorem mem_parts:∀ (l:Lad) (p:Lad × Int),p ∈ l.ps->p.1.parts < l.parts
 | .nil,_,h=>by simp [ps] at h
 | .cons e m r,p,h=>by
  rcases List.mem_cons.mp h with h | h
  ·subst h; show e.parts < 1+e.parts+r.parts; omega
  ·have:=mem_parts r p h; show p.1.parts < 1+e.parts+r.parts; omega
theorem mem_deep:∀ (l:Lad) (p:Lad × Int),p ∈ l.ps->p.1.deep < l.deep
 | .nil,_,h=>by simp [ps] at h
 | .cons e m r,p,h=>by
  rcases List.mem_cons.mp h with h | h
  ·subst h; show e.deep < max (1+e.deep) r.deep; omega
  ·have:=mem_deep r p h; show p.1.deep < max (1+e.deep) r.deep; omega
end Lad
section
variable {P:Program} {w:World} {K:PySem.W.Frag} {mg:Str->Option Value} {base:Heap} {f:Addr} {fd:FuncData}
abbrev zio (K:PySem.W.Frag):TG:=gTup K 2 (gCons (gName 1) (gCons (gName 2) gNil))
end
def exp0:PyData->PyData
 | .tuple (e::_)=>e
 | _=>.none
mutual
def ladD:PyData->Bool
 | .tuple ds=>zew ds&&z31 (ds.map exp0).reverse
 | _=>false
def zew:List PyData->Bool
 | []=>true
 | d::ds=>ladP d&&zew ds
def ladP:PyData->Bool
 | .tuple ds=>zjh ds
 | _=>false
def zjh:List PyData->Bool
 | []=>false
 | e::r=>ladD e&&z11 r
def z11:List PyData->Bool
 | []=>false
 | m::r=>z0w m&&r.isEmpty
end
theorem z49 {ds:List PyData} {i:Nat} {d:PyData} (h:ds[i]?=some d):d.depth<=PyData.depthAll ds:=PyData.depth_le_depthAll ds d (List.mem_of_getElem? h)
section
variable {P:Program} {w:World} {K:PySem.W.Frag} {mg:Str->Option Value} {base:Heap} {f:Addr} {fd:FuncData} {ps:List Addr}
mutual
def wide:PyData->Nat
 | .tuple ds=>max ds.length (z16 ds)
 | _=>0
def z16:List PyData->Nat
 | []=>0
 | d::ds=>max (wide d) (z16 ds)
end
theorem z6k:∀ (ds:List PyData) (d:PyData),d ∈ ds->wide d<=z16 ds
 | [],_,h=>by simp at h
 | e::ds,d,h=>by
  rw [z16]
  rcases List.mem_cons.mp h with h | h
  ·subst h; omega
  ·have:=z6k ds d h; omega
theorem z3z (ds:List PyData):wide (.tuple ds)=max ds.length (z16 ds):=by rw [wide]
end
section
variable {K:PySem.W.Frag} {H:Hp}
theorem DpAll.append:∀ {xs ys:List V} {ds es:List PyData},DpAll K H xs ds->DpAll K H ys es->DpAll K H (xs++ys) (ds++es)
 | _,_,_,_,.nil,h=>h
 | _,_,_,_,.cons a b,h=>.cons a (DpAll.append b h)
theorem DpAll.reverse:∀ {xs:List V} {ds:List PyData},DpAll K H xs ds->DpAll K H xs.reverse ds.reverse
 | _,_,.nil=>.nil
 | _,_,.cons a b=>by
  rw [List.reverse_cons,List.reverse_cons]
  exact DpAll.append (DpAll.reverse b) (.cons a .nil)
end
/-- a purse -/
def Pu (H:Hp) (p:Addr):Prop:=∃ x y:Int,H p=some (.lst [.int x,.int y])/\0<=x/\0<=y/\y < 2147483629
section
variable {P:Program} {w:World} {K:PySem.W.Frag} {mg:Str->Option Value} {base:Heap} {f:Addr} {fd:FuncData}
theorem ix0 {x y:V}:atI [x,y] 0=some x:=rfl
theorem ix1 {x y:V}:atI [x,y] 1=some y:=rfl
end
mutual
def z6r:PyData->Bool
 | .int _=>true
 | .tuple ds=>z37 ds
 | _=>false
def z37:List PyData->Bool
 | []=>true
 | d::ds=>z6r d&&z37 ds
end
theorem Lad.plains:∀ l:Lad,z37 l.encs=true
 | .nil=>by simp [Lad.encs,z37]
 | .cons e m r=>by simp [Lad.encs,z37,z6r,Lad.plains e,Lad.plains r]
theorem Lad.plain (l:Lad):z6r l.enc=true:=by rw [Lad.enc,z6r]; exact l.plains
theorem ib (m m':Int):(m == m')=decide (m=m'):=by by_cases h:m=m' <;> simp [h]
theorem Lad.eqvs:∀ l k:Lad,PyData.eqvAll l.encs k.encs=decide (l=k)
 | .nil,.nil=>by simp [encs,PyData.eqvAll]
 | .nil,.cons _ _ _=>by simp [encs,PyData.eqvAll]
 | .cons _ _ _,.nil=>by simp [encs,PyData.eqvAll]
 | .cons e m r,.cons e' m' r'=>by
  have h1:=Lad.eqvs e e'
  have h2:=Lad.eqvs r r'
  simp [encs,PyData.eqvAll,PyData.eqv,h1,h2,Bool.and_assoc,ib]
theorem Lad.eqv_enc (l k:Lad):PyData.eqv l.enc k.enc=decide (l=k):=by
 rw [Lad.enc,Lad.enc,PyData.eqv]; exact Lad.eqvs l k
theorem Lad.lt_nil_nil:Lad.lt .nil .nil=false:=by decide +kernel
theorem Lad.lt_nil_cons (e:Lad) (m:Int) (r:Lad):Lad.lt .nil (.cons e m r)=true:=by
 unfold Lad.lt Lad.enc
 rw [dataLt_tuple,Lad.encs,Lad.encs,toks_all_cons,show keyToksAll []=[.inl 0] by simp [keyToksAll],lex_atom (by simp),lex_one]
 decide +kernel
theorem Lad.lt_cons_nil (e:Lad) (m:Int) (r:Lad):Lad.lt (.cons e m r) .nil=false:=by
 unfold Lad.lt Lad.enc
 rw [dataLt_tuple,Lad.encs,Lad.encs,toks_all_cons,show keyToksAll []=[.inl 0] by simp [keyToksAll],lex_atom (by simp),lex_one]
 decide +kernel
theorem Lad.lt_cons (e e':Lad) (m m':Int) (r r':Lad):Lad.lt (.cons e m r) (.cons e' m' r')=if e=e' then (if m=m' then r.lt r' else decide (m < m')) else e.lt e':=by
 have al:alike (.tuple [e.enc,.int m]) (.tuple [e'.enc,.int m'])=true:=by simp [alike,alikeAll,e.alike_enc e']
 have h1:Lad.lt (.cons e m r) (.cons e' m' r')=if PyData.eqv (.tuple [e.enc,.int m]) (.tuple [e'.enc,.int m'])=true then r.lt r' else dataLt (.tuple [e.enc,.int m]) (.tuple [e'.enc,.int m']):=by
  unfold Lad.lt
  rw [show (Lad.cons e m r).enc=.tuple (.tuple [e.enc,.int m]::r.encs) from rfl,show (Lad.cons e' m' r').enc=.tuple (.tuple [e'.enc,.int m']::r'.encs) from rfl,dataLt_tuple,dataLt_cons al]
  rw [show dataLt r.enc r'.enc=PyProof.Rows.lexLt itemOrd (keyToksAll r.encs) (keyToksAll r'.encs) from dataLt_tuple _ _]
 have h2:PyData.eqv (.tuple [e.enc,.int m]) (.tuple [e'.enc,.int m'])=(decide (e=e')&&decide (m=m')):=by
  simp [PyData.eqv,PyData.eqvAll,Lad.eqv_enc,ib]
 rw [h1,h2,dataLt_pair (e.alike_enc e') (by simp [alike]),Lad.eqv_enc]
 by_cases he:e=e'
 ·by_cases hm:m=m'
  ·simp [he,hm]
  ·simp [he,hm,PyData.eqv,dataLt_int]
 ·simp [he,Lad.lt]
namespace Lad
theorem lt_irrefl:∀ l:Lad,l.lt l=false
 | .nil=>lt_nil_nil
 | .cons e m r=>by rw [lt_cons,if_pos rfl,if_pos rfl]; exact lt_irrefl r
theorem lt_nil_r:∀ l:Lad,l.lt .nil=false
 | .nil=>lt_nil_nil
 | .cons e m r=>lt_cons_nil e m r
theorem lt_ne {l k:Lad} (h:l.lt k=true):l ≠ k:=fun z=>by subst z; rw [lt_irrefl] at h; cases h
theorem lt_tri:∀ l k:Lad,l ≠ k->l.lt k=false->k.lt l=true
 | .nil,.nil,h,_=>absurd rfl h
 | .nil,.cons e m r,_,h=>by rw [lt_nil_cons] at h; cases h
 | .cons e m r,.nil,_,_=>lt_nil_cons e m r
 | .cons e m r,.cons e' m' r',hne,h=>by
  rw [lt_cons] at h ⊢
  by_cases he:e=e'
  ·subst he
   rw [if_pos rfl] at h ⊢
   by_cases hm:m=m'
   ·subst hm
    rw [if_pos rfl] at h ⊢
    exact lt_tri r r' (fun z=>hne (by rw [z])) h
   ·rw [if_neg hm] at h
    rw [if_neg (fun z=>hm z.symm)]
    have:=of_decide_eq_false h
    exact decide_eq_true (by omega)
  ·rw [if_neg he] at h
   rw [if_neg (fun z=>he z.symm)]
   exact lt_tri e e' he h
theorem lt_trans:∀ l k j:Lad,l.lt k=true->k.lt j=true->l.lt j=true
 | _,_,.nil,_,h=>by rw [lt_nil_r] at h; cases h
 | _,.nil,.cons _ _ _,h,_=>by rw [lt_nil_r] at h; cases h
 | .nil,.cons _ _ _,.cons e m r,_,_=>lt_nil_cons e m r
 | .cons e m r,.cons e' m' r',.cons e'' m'' r'',h1,h2=>by
  rw [lt_cons] at h1 h2 ⊢
  by_cases he:e=e'
  ·subst he
   rw [if_pos rfl] at h1
   by_cases he2:e=e''
   ·subst he2
    rw [if_pos rfl] at h2 ⊢
    by_cases hm:m=m'
    ·subst hm
     rw [if_pos rfl] at h1
     by_cases hm2:m=m''
     ·subst hm2
      rw [if_pos rfl] at h2 ⊢
      exact lt_trans r r' r'' h1 h2
     ·rw [if_neg hm2] at h2 ⊢
      exact h2
    ·rw [if_neg hm] at h1
     have a1:=of_decide_eq_true h1
     by_cases hm2:m'=m''
     ·subst hm2
      rw [if_neg hm]
      exact h1
     ·rw [if_neg hm2] at h2
      have a2:=of_decide_eq_true h2
      rw [if_neg (by omega)]
      exact decide_eq_true (by omega)
   ·rw [if_neg he2] at h2 ⊢
    exact h2
  ·rw [if_neg he] at h1
   by_cases he2:e'=e''
   ·subst he2
    rw [if_neg he]
    exact h1
   ·rw [if_neg he2] at h2
    have h3:=lt_trans e e' e'' h1 h2
    rw [if_neg (lt_ne h3)]
    exact h3
theorem lt_asymm {l k:Lad} (h:l.lt k=true):k.lt l=false:=by
 cases e:k.lt l with
 | false=>rfl
 | true =>
  have:=lt_trans l k l h e
  rw [lt_irrefl] at this
  cases this
/-- a right ladder: numbers from 1 to below B,exponents falling,at each depth -/
def Ok (B:Int):Lad->Prop
 | .nil=>True
 | .cons e m r=>e.Ok B/\1<=m/\m < B/\r.Ok B/\∀ p ∈ r.ps,p.1.lt e=true
theorem Ok.mono {B C:Int} (h:B<=C):∀ {l:Lad},l.Ok B->l.Ok C
 | .nil,_=>trivial
 | .cons e m r,⟨h1,h2,h3,h4,h5⟩=>⟨Ok.mono h h1,h2,by omega,Ok.mono h h4,h5⟩
theorem ok_ps {B:Int}:∀ {ps:List (Lad × Int)},(ofPs ps).Ok B ↔ (∀ p ∈ ps,p.1.Ok B/\1<=p.2/\p.2 < B)/\ps.Pairwise (fun p q=>q.1.lt p.1=true)
 | []=>by simp [ofPs,Ok]
 | (e,m)::r=>by
  have ih:=ok_ps (B:=B) (ps:=r)
  show (e.Ok B/\1<=m/\m < B/\(ofPs r).Ok B/\∀ p ∈ (ofPs r).ps,p.1.lt e=true) ↔ _
  rw [ps_ofPs,List.pairwise_cons,ih]
  constructor
  ·rintro ⟨h1,h2,h3,⟨h4,h5⟩,h6⟩
   refine ⟨fun p hp=>?_,h6,h5⟩
   rcases List.mem_cons.mp hp with hp | hp
   ·subst hp; exact ⟨h1,h2,h3⟩
   ·exact h4 p hp
  ·rintro ⟨h1,h2,h3⟩
   have h4:=h1 (e,m) (mcs ..)
   exact ⟨h4.1,h4.2.1,h4.2.2,⟨fun p hp=>h1 p (mcm _ hp),h3⟩,h2⟩
theorem ok_iff {B:Int} {l:Lad}:l.Ok B ↔ (∀ p ∈ l.ps,p.1.Ok B/\1<=p.2/\p.2 < B)/\l.ps.Pairwise (fun p q=>q.1.lt p.1=true):=by
 have:=ok_ps (B:=B) (ps:=l.ps)
 rw [ofPs_ps] at this
 exact this
end Lad
theorem Pu.sb {H H':Hp} {p:Addr} (h:Pu H p) (e:SB [] H H'):Pu H' p:=by
 obtain ⟨x,y,h1,h2⟩:=h
 exact ⟨x,y,e.keep _ _ h1 nmn,h2⟩
section
variable {P:Program} {w:World} {K:PySem.W.Frag} {mg:Str->Option Value} {base:Heap} {f:Addr} {fd:FuncData}
def spLaw (K:PySem.W.Frag):Sp:=fun vs H Q _=>∃ (a:Addr) (ns:List Int),vs=[.ref a]/\SqL K H a (ns.map V.int)/\ns.length<=63/\∀ H',Q (.bl true) H'
theorem z1n {ps:List Str} {k:Nat} {sp:Sp} (no:∀ vs H Q E,¬ sp vs H Q E):FnOk P w K mg base CX0 k f fd ps sp :=
 ⟨fun vs H Q E h=>absurd h (no vs H Q E),fun A outer s H args us vs Q E _ _ _ _ h=>absurd h (no vs H Q E)⟩
end
namespace Lad
theorem pLt (p q:Lad × Int):dataLt (pEnc p) (pEnc q)=if p.1=q.1 then decide (p.2 < q.2) else p.1.lt q.1:=by
 unfold pEnc
 rw [dataLt_pair (p.1.alike_enc q.1) (by simp [alike]),Lad.eqv_enc]
 by_cases h:p.1=q.1
 ·rw [if_pos (by simp [h]),if_pos h,dataLt_int]
  by_cases h2:p.2=q.2
  ·simp [PyData.eqv,h2]
  ·simp [PyData.eqv,h2]
 ·rw [if_neg (by simp [h]),if_neg h]; rfl
/-- the parts of pairs -/
def tot:List (Lad × Int)->Nat
 | []=>0
 | p::r=>1+p.1.parts+tot r
theorem parts_ofPs:∀ bs:List (Lad × Int),(ofPs bs).parts=tot bs
 | []=>rfl
 | (e,m)::r=>by show 1+e.parts+(ofPs r).parts=1+e.parts+tot r; rw [parts_ofPs r]
theorem tot_append:∀ bs cs:List (Lad × Int),tot (bs++cs)=tot bs+tot cs
 | [],cs=>by simp [tot]
 | p::r,cs=>by show 1+p.1.parts+tot (r++cs)=_; rw [tot_append r cs,tot]; omega
theorem tot_filter (f:Lad × Int->Bool):∀ bs:List (Lad × Int),tot (bs.filter f)<=tot bs
 | []=>by simp [tot]
 | p::r=>by
  have:=tot_filter f r
  rw [List.filter_cons]
  split
  ·show 1+p.1.parts+tot (r.filter f)<=1+p.1.parts+tot r; omega
  ·show tot (r.filter f)<=1+p.1.parts+tot r; omega
theorem tot_perm {bs cs:List (Lad × Int)} (h:bs.Perm cs):tot bs=tot cs:=by
 induction h with
 | nil=>rfl
 | cons x _ ih=>simp only [tot]; omega
 | swap x y l=>simp only [tot]; omega
 | trans _ _ h1 h2=>omega
theorem deep_ofPs {n:Nat}:∀ {bs:List (Lad × Int)},(∀ b ∈ bs,b.1.deep < n)->(ofPs bs).deep<=n
 | [],_=>Nat.zero_le _
 | (e,m)::r,h=>by
  have h1:=deep_ofPs (bs:=r) fun b hb=>h b (mcm _ hb)
  have h2:e.deep < n:=h (e,m) (mcs ..)
  show max (1+e.deep) (ofPs r).deep<=n
  omega
end Lad
theorem zcp {K:PySem.W.Frag} {H:Hp} {v:V} {l:Lad} (h:LA K H v l):∃ a xs,v=.ref a/\SqT K H a xs/\Bears K H Lad.pEnc xs l.ps:=by
 obtain ⟨a,xs,rfl,hs,ha⟩:=h.tup
 rw [Lad.encs_ps] at ha
 exact ⟨a,xs,rfl,hs,Bears.of ha⟩
def zdc (K:PySem.W.Frag):R2:=fun x y H Q=>∃ a b xs ys,x=.ref a/\y=.ref b/\SqT K H a xs/\SqT K H b ys/\xs.length+ys.length<=10000/\∀ c H',SB [] H H'->SqT K H' c (xs++ys)->Q (.ref c) H'
def rSlB (K:PySem.W.Frag):V->Option Int->Option Int->Hp->VK->Prop:=fun x lo hi H Q=>∃ a xs,x=.ref a/\SqT K H a xs/\∀ c H',SB [] H H'->SqT K H' c (cutV xs lo hi)->Q (.ref c) H'
section
variable {X:Cx}
theorem z73:OpR X (binaryOp .Add) (zdc X.K):=by
 intro pins s σ H x y v u Q I rx ry h
 obtain ⟨a,b,xs,ys,rfl,rfl,ha,hb,hz,q⟩:=h
 refine op_catA pins s σ H _ _ v u Q I rx ry ⟨a,b,xs,ys,rfl,rfl,ha,hb,by rw [sizeLine_eq]; omega,fun e=>?_,fun e1 e2=>?_,fun e1 e2 p hp=>?_⟩
 ·subst e; exact q b H SB.refl hb
 ·subst e2; exact q a H SB.refl (by rw [List.append_nil]; exact ha)
 ·exact q p _ (SB.new hp _) (SqT.of upd_same)
theorem zg0:SlR X (rSlB X.K):=by
 intro pins s σ H x v vl vu lo hi sl Q I rx hs pl pu h
 obtain ⟨a,xs,rfl,hx,q⟩:=h
 refine sl_tupA pins s σ H _ v vl vu lo hi sl Q I rx hs pl pu ⟨a,xs,rfl,hx,fun e=>?_,fun e p hp=>?_⟩
 ·refine q a H SB.refl ?_
  have:cutV xs lo hi=xs:=by
   unfold cutV
   rw [e.1,e.2]
   simp
  rw [this]; exact hx
 ·exact q p _ (SB.new hp _) (SqT.of upd_same)
end
theorem zg5 (xs:List V) (k:Nat):cutV xs none (some (k:Int))=xs.take k:=by
 unfold cutV
 have h1:HT.sIx xs.length 0 none=0:=rfl
 have h2:HT.sIx xs.length xs.length (some (k:Int))=min k xs.length:=HT.sIx_nat xs.length xs.length k
 rw [h1,h2]
 simp
theorem zfh (xs:List V) (k:Nat):cutV xs (some (k:Int)) none=xs.drop k:=by
 unfold cutV
 have h1:HT.sIx xs.length 0 (some (k:Int))=min k xs.length:=HT.sIx_nat xs.length 0 k
 have h2:HT.sIx xs.length xs.length none=xs.length:=rfl
 rw [h1,h2]
 by_cases h:k<=xs.length
 ·rw [Nat.min_eq_left h,List.take_of_length_le (by rw [List.length_drop]; omega)]
 ·rw [Nat.min_eq_right (by omega),List.drop_eq_nil_of_le (Nat.le_refl _),List.drop_eq_nil_of_le (by omega)]
  simp
namespace Lad
def sumAt (ps:List (Lad × Int)) (e:Lad):Int:=((ps.filter fun p=>decide (p.1=e)).map (·.2)).sum
/-- the second behind the first -/
def bhd (l k:Lad):Lad:=match k.ps with
 | []=>l
 | (e,m)::r=>ofPs (l.ps.filter (fun p=>e.lt p.1)++(e,sumAt l.ps e+m)::r)
theorem bhd_nil (l:Lad):bhd l .nil=l:=rfl
theorem bhd_cons (l e:Lad) (m:Int) (r:Lad):bhd l (.cons e m r)=ofPs (l.ps.filter (fun p=>e.lt p.1)++(e,sumAt l.ps e+m)::r.ps):=rfl
end Lad
namespace Lad
theorem deep_parts_mem {l:Lad} {n:Nat} (h:l.deep<=n):∀ p ∈ l.ps,p.1.deep < n:=fun p hp=>Nat.lt_of_lt_of_le (mem_deep l p hp) h
end Lad
theorem Pu.new {H:Hp} {p q:Addr} (h:Pu H p) (n:H q=none) {o:HO}:Pu (upd H q o) p:=by
 obtain ⟨x,y,h1,h2⟩:=h
 exact ⟨x,y,by rw [upd_ne (ne_of_none h1 n)]; exact h1,h2⟩
theorem Pu.ne {H:Hp} {p q:Addr} (h:Pu H p) (n:H q=none):p ≠ q:=by
 obtain ⟨x,y,h1,h2⟩:=h
 exact ne_of_none h1 n
theorem SB.drop2 {p q:Addr} {H H':Hp} (h:SB [p,q] H H') (n:H q=none):SB [p] H H':=by
 refine ⟨fun b o e m=>h.keep b o e fun z=>?_,h.tups,h.frzs,h.dom⟩
 have z':b=p\/b=q:=by simpa using z
 rcases z' with z | z
 ·exact m (by simp [z])
 ·subst z; rw [n] at e; cases e
namespace Lad
theorem bhd_parts (l k:Lad):(bhd l k).parts<=l.parts+k.parts:=by
 cases k with
 | nil=>rw [bhd_nil]; omega
 | cons e m r =>
  rw [bhd_cons,parts_ofPs,tot_append]
  have h1:l.parts=tot l.ps:=by rw [<- parts_ofPs,ofPs_ps]
  have h2:=tot_filter (fun p=>e.lt p.1) l.ps
  have h3:r.parts=tot r.ps:=by rw [<- parts_ofPs,ofPs_ps]
  simp only [tot,Lad.parts]
  omega
theorem bhd_deep {n:Nat} {l k:Lad} (hl:l.deep<=n) (hk:k.deep<=n):(bhd l k).deep<=n:=by
 cases k with
 | nil=>rw [bhd_nil]; exact hl
 | cons e m r =>
  rw [bhd_cons]
  refine deep_ofPs fun b hb=>?_
  rcases List.mem_append.mp hb with hb | hb
  ·exact deep_parts_mem hl b (List.mem_filter.mp hb).1
  ·rcases List.mem_cons.mp hb with hb | hb
   ·subst hb; exact deep_parts_mem hk (e,m) (mcs ..)
   ·exact deep_parts_mem hk b (mcm _ hb)
theorem nil_bhd (k:Lad):bhd .nil k=k:=by
 cases k with
 | nil=>rfl
 | cons e m r =>
  rw [bhd_cons]
  show ofPs ([]++(e,sumAt [] e+m)::r.ps)=_
  have:sumAt [] e+m=m:=by simp [sumAt]
  rw [this]
  show cons e m (ofPs r.ps)=_
  rw [ofPs_ps]
end Lad
theorem Bears.at {K:PySem.W.Frag} {H:Hp} {β:Type} {enc:β->PyData}:∀ {vs:List V} {bs:List β} {i:Nat} {b:β},Bears K H enc vs bs->bs[i]?=some b->∃ v,vs[i]?=some v/\Dp K H v (enc b)
 | _,_,_,_,.nil,e=>by simp at e
 | _,_,0,_,.cons h t,e=>by simp at e; subst e; exact ⟨_,rfl,h⟩
 | _,_,i+1,b,.cons h t,e=>by
  obtain ⟨d,h1,h2⟩:=Bears.at (i:=i) (b:=b) t (by simpa using e)
  exact ⟨d,by simpa using h1,h2⟩
theorem Bears.set {K:PySem.W.Frag} {H:Hp} {β:Type} {enc:β->PyData} {v:V} {b:β} (hv:Dp K H v (enc b)):∀ {vs:List V} {bs:List β} (i:Nat),Bears K H enc vs bs->Bears K H enc (vs.set i v) (bs.set i b)
 | _,_,_,.nil=>.nil
 | _,_,0,.cons h t=>.cons hv t
 | _,_,i+1,.cons h t=>.cons h (Bears.set hv i t)
namespace Lad
theorem le_trans {a b c:Lad} (h1:b.lt a=false) (h2:c.lt b=false):c.lt a=false:=by
 cases e:c.lt a with
 | false=>rfl
 | true =>
  by_cases hab:a=b
  ·subst hab; rw [e] at h2; cases h2
  ·have h3:a.lt b=true:=lt_tri b a (fun z=>hab z.symm) h1
   have h4:=lt_trans c a b e h3
   rw [h4] at h2; cases h2
theorem le_of_lt {a b:Lad} (h:a.lt b=true):b.lt a=false:=lt_asymm h
end Lad
section
variable {prog:Program} {w:World} {A:Around} {E:Value->Shared->Prop} {s:Shared} {β:Type} {vs:List Value} {bs:List β} {enc:β->PyData} {R:Value->β->Prop}
/-- sorted(t,..),t a tuple of data that are alike -/
theorem z61 {t:Addr} {kw:List (Str × Value)} {b:Bool} {Q:Value->Shared->Prop} (hkw:∀ a,Builtin.«list.sort» ⟨[.ref a],kw⟩=Builtin.«list.sort» ⟨[.ref a],[(Str.ofString "reverse",.bool b)]⟩) (ha1:argsOk "sorted" ⟨[.ref t],kw⟩) (ha2:∀ x,argsOk "list.sort" ⟨[.ref x],kw⟩)
  (ht:IsTup s.heap t vs.toArray) (e:EachIs R vs bs) (er:EachIs (fun v b=>∃ as,Reads s.heap v (enc b) as) vs bs) (hal:AllAlike (bs.map enc)) (hk:Sortable (bs.map enc)) (hL:bs.length<=sizeLine)
  (hu:∀ b,b ∈ bs->A.units+2+(enc b).depth < cLine)
  (h:∀ (out:List Value) (h' h2:Heap) (n:Nat),(∀ b o,s.heap.get? b=some o->h'.get? b=some o)->(∀ b o,h'.get? b=some o->h2.get? b=some o)->h2.get? h'.objs.size=some (seqObj "list" out.toArray n)->out.length=bs.length->EachIs R out (bs.mergeSort (dataLe b enc))->Q (.ref h'.objs.size) { s with heap:=h2 }) :
  wpAny (model prog w) A (call (.builtin "sorted") [.ref t] kw) Q E s:=by
 have hlen:vs.length<=sizeLine:=by rw [e.length]; exact hL
 obtain ⟨o,ho,hc,n0,hd⟩:=id ht
 refine call_function_entry_kw kind_sorted plain_sorted entry_sorted ha1 ?_
 unfold Builtin.«sorted»
 refine wpAny_bind (m:=checkCount "sorted" 1 1 _) (wpAny_pure ?_)
 refine wpAny_bind (wpAny_collect_seq t (.inr rfl) ho hc hd (fun h' hk'=>?_) (by rw [List.size_toArray]; exact hlen))
 refine wpAny_bind (wpAny_newList ?_ hlen)
 show wpAny _ _ _ _ _ { s with heap:=h'.push (seqObj "list" vs.toArray 0) }
 have hat:(h'.push (seqObj "list" vs.toArray 0)).get? h'.objs.size=some (seqObj "list" vs.toArray 0):=Heap.get?_push_size _ rfl
 refine wpAny_bind (wpAny_holding (wpAny_call_entry_kw slot_list_sort ⟨_,hat,rfl⟩ entry_list_sort ?body (ha2 _)))
 case body =>
  rw [hkw]
  have old:∀ b o,h'.get? b=some o->(sortingHeap (h'.push (seqObj "list" vs.toArray 0)) h'.objs.size vs).get? b=some o:=fun b o q=>sortingHeap_old (Nat.ne_of_lt (Heap.lt_size q)) (Heap.get?_push_of_some _ q)
  have er':EachIs (fun v b=>∃ as,Reads (sortingHeap (h'.push (seqObj "list" vs.toArray 0)) h'.objs.size vs) v (enc b) as) vs bs:=er.mono fun _ _ ⟨as,r⟩=>⟨as,PyProof.Rows.Reads.keeps (fun b o q=>old b o (hk' b o q)) r⟩
  refine list_sort_rev_vals (s:={ s with heap:=h'.push (seqObj "list" vs.toArray 0) }) (κ:=dataKind (sortingHeap (h'.push (seqObj "list" vs.toArray 0)) h'.objs.size vs) (bs.map enc)) hat (SortsAt.data (s:={ s with heap:=sortingHeap (h'.push (seqObj "list" vs.toArray 0)) h'.objs.size vs }) (each_map (R:=fun v d=>∃ as,Reads (sortingHeap (h'.push (seqObj "list" vs.toArray 0)) h'.objs.size vs) v d as) enc er') hal hk (bound_map hu)) hlen ?_
  refine ⟨_,rfl,wpAny_pure ⟨_,rfl,?_⟩⟩
  obtain ⟨n2,hn2⟩:=sortedHeap_at (out:=(sortVals (dataKind (sortingHeap (h'.push (seqObj "list" vs.toArray 0)) h'.objs.size vs) (bs.map enc)) b vs vs).toArray) hat
  refine h _ h' _ n2 hk' (fun b o q=>?_) hn2 (by rw [sortVals_length b rfl]; exact e.length) (sortVals_data b e er' hal)
  rw [sortedHeap_old (Nat.ne_of_lt (Heap.lt_size q)) (by rw [size_push']; exact Nat.lt_succ_of_lt (Heap.lt_size q))]
  exact Heap.get?_push_of_some _ q
end
/-- sorted(t),sorted(t,reverse=b) -/
def z8x (K:PySem.W.Frag) {β:Type} (enc:β->PyData) (b:Bool) (vs:List V) (H:Hp) (Q:VK):Prop:=∃ (a:Addr) (xs:List V) (bs:List β),vs=[V.ref a]/\SqT K H a xs/\Bears K H enc xs bs/\AllAlike (bs.map enc)/\Sortable (bs.map enc)/\bs.length<=10000/\(∀ b ∈ bs,(enc b).depth<=100) /\
 ∀ (p:Addr) (ys:List V),H p=none->Bears K H enc ys (bs.mergeSort (dataLe b enc))->Q (.ref p) (upd H p (.lst ys))
section
variable {X:Cx}
theorem z9l {β:Type} {enc:β->PyData} {b:Bool} {kw:List (Str × Value)} (hu:X.A.units+110 < cLine) (hkw:∀ a,Builtin.«list.sort» ⟨[.ref a],kw⟩=Builtin.«list.sort» ⟨[.ref a],[(Str.ofString "reverse",.bool b)]⟩) (ha1:∀ t,argsOk "sorted" ⟨[.ref t],kw⟩) (ha2:∀ x,argsOk "list.sort" ⟨[.ref x],kw⟩)
  {pins:List (Addr × Obj)} {s:Shared} {σ:L2.St} {H:Hp} {vs:List V} {us:List Value} {Q:VK} (I:Inv X pins σ H s) (r:Vals vs us) (h:z8x X.K enc b vs H Q):wpAny (model X.prog X.w) X.A (call (.builtin "sorted") us kw) (EP X pins σ Q) X.xe s:=by
 obtain ⟨a,xs,bs,rfl,hs,hb,hal,hsr,hl,hd,q⟩:=h
 obtain ⟨its,rv,hli,_⟩:=I.tuple hs
 rw [Vals.ref1 r]
 obtain ⟨e1,e2⟩:=z35 I hb rv
 refine z61 (vs:=its) (bs:=bs) (enc:=enc) (R:=fun u b=>∃ v,RelV v u/\Dp X.K H v (enc b)) hkw (ha1 _) ha2 hli e1 e2 hal hsr (by rw [sizeLine_eq]; omega) (fun b m=>by have:=hd b m; omega) fun out h' h2 n k1 k2 hat ho h1=>?_
 obtain ⟨ys,g2,g3⟩:=z39 h1
 have I':Inv X pins σ H { s with heap:=h' }:=I.kept (t':=s.toks) k1
 have hlen:ys.length<=sizeLine:=by rw [g2.length,ho,sizeLine_eq]; omega
 exact ⟨.ref _,upd H h'.objs.size (.lst ys),I'.laid (t':=s.toks) (fun b o e=>k2 b o e) (Nat.le_refl _) ⟨hlen,out,n,g2,hat⟩,rfl,q _ ys (I'.hok.fresh (Nat.le_refl _)) g3⟩
theorem zat {β:Type} (enc:β->PyData) (hu:X.A.units+110 < cLine):CallR X (.builtin "sorted") (z8x X.K enc false):=by
 intro pins s σ H vs us Q I r h
 exact z9l (kw:=[]) hu plain_is_rev (fun _=>args_sorted1 _) (fun _=>args_list_sort _) I r h
end
section
variable {γ:Type} [DecidableEq γ]
def z0r (enc:γ->PyData) (p:γ × Int):PyData:=.tuple [enc p.1,.int p.2]
def z02 (acc:List (γ × Int)) (p:γ × Int):List (γ × Int):=match acc.getLast? with
 | some q=>if q.1=p.1 then acc.dropLast++[(p.1,q.2+p.2)] else acc++[p]
 | none=>[p]
def jn (bs:List (γ × Int)):List (γ × Int):=bs.foldl z02 []
theorem z0p (p:γ × Int):z02 [] p=[p]:=rfl
theorem z06 (acc:List (γ × Int)) (q p:γ × Int):z02 (acc++[q]) p=if q.1=p.1 then acc++[(p.1,q.2+p.2)] else acc++[q]++[p]:=by
 unfold z02
 rw [List.getLast?_append]
 simp
theorem z89 (acc:List (γ × Int)) (p:γ × Int):(z02 acc p).length<=acc.length+1:=by
 rcases List.eq_nil_or_concat acc with h | ⟨a,q,h⟩
 ·subst h; simp [z02]
 ·subst h
  rw [List.concat_eq_append,z06]
  split <;> simp
theorem z9s (bs:List (γ × Int)) (i:Nat) (p:γ × Int) (h:bs[i]?=some p):jn (bs.take (i+1))=z02 (jn (bs.take i)) p:=by
 unfold jn
 rw [List.take_add_one,h,List.foldl_append]
 rfl
theorem z4j (bs:List (γ × Int)):(jn bs).length<=bs.length:=by
 have key:∀ (bs acc:List (γ × Int)),(bs.foldl z02 acc).length<=acc.length+bs.length:=by
  intro bs
  induction bs with
  | nil=>intro acc; simp
  | cons p r ih =>
   intro acc
   have h1:=ih (z02 acc p)
   have h2:=z89 acc p
   show (r.foldl z02 (z02 acc p)).length<=_
   rw [List.length_cons]
   omega
 have:=key bs []
 simpa [jn] using this
theorem z1v (bs:List (γ × Int)):∀ p ∈ jn bs,∃ q ∈ bs,q.1=p.1:=by
 have key:∀ (bs acc:List (γ × Int)),∀ p ∈ bs.foldl z02 acc,(∃ q ∈ acc,q.1=p.1)\/∃ q ∈ bs,q.1=p.1:=by
  intro bs
  induction bs with
  | nil=>intro acc p hp; exact .inl ⟨p,hp,rfl⟩
  | cons x r ih =>
   intro acc p hp
   rcases ih (z02 acc x) p hp with ⟨q,hq,e⟩ | ⟨q,hq,e⟩
   ·rcases List.eq_nil_or_concat acc with h | ⟨a,z,h⟩
    ·subst h
     rw [z0p] at hq
     have:q=x:=by simpa using hq
     subst this
     exact .inr ⟨q,mcs ..,e⟩
    ·subst h
     rw [List.concat_eq_append] at hq ⊢
     rw [z06] at hq
     by_cases hz:z.1=x.1
     ·rw [if_pos hz] at hq
      rcases List.mem_append.mp hq with hq | hq
      ·exact .inl ⟨q,mal _ hq,e⟩
      ·have:q=(x.1,z.2+x.2):=by simpa using hq
       subst this
       exact .inr ⟨x,mcs ..,e⟩
     ·rw [if_neg hz] at hq
      rcases List.mem_append.mp hq with hq | hq
      ·exact .inl ⟨q,hq,e⟩
      ·have:q=x:=by simpa using hq
       subst this
       exact .inr ⟨q,mcs ..,e⟩
   ·exact .inr ⟨q,mcm _ hq,e⟩
 intro p hp
 rcases key bs [] p hp with ⟨q,hq,_⟩ | h
 ·cases hq
 ·exact h
/-- unlike neighbours stay as they are -/
theorem zjj {bs:List (γ × Int)} (h:bs.Pairwise (fun a b=>a.1 ≠ b.1)):jn bs=bs:=by
 have key:∀ (bs acc:List (γ × Int)),(acc++bs).Pairwise (fun a b=>a.1 ≠ b.1)->bs.foldl z02 acc=acc++bs:=by
  intro bs
  induction bs with
  | nil=>intro acc _; simp
  | cons x r ih =>
   intro acc hp
   have e:z02 acc x=acc++[x]:=by
    rcases List.eq_nil_or_concat acc with h | ⟨a,z,h⟩
    ·subst h; rfl
    ·subst h
     rw [List.concat_eq_append] at hp ⊢
     rw [z06,if_neg]
     have h2:=(List.pairwise_append.mp hp).2.2 z (by simp) x (mcs ..)
     exact h2
   show r.foldl z02 (z02 acc x)=_
   rw [e,ih]
   ·simp
   ·simpa using hp
 have:=key bs [] (by simpa using h)
 simpa [jn] using this
end
theorem z9v {K:PySem.W.Frag} {H:Hp} {γ:Type} {enc:γ->PyData} {v:V} {p:γ × Int} (h:Dp K H v (z0r enc p)):∃ a u,v=.ref a/\SqT K H a [u,.int p.2]/\Dp K H u (enc p.1):=by
 have h':Dp K H v (.tuple [enc p.1,.int p.2]):=h
 cases h' with
 | tup hs ha =>
  cases ha with
  | cons a1 a2 =>
   cases a2 with
   | cons b1 b2 =>
    cases b2
    cases b1
    exact ⟨_,_,rfl,hs,a1⟩
theorem z4p {γ:Type} {enc:γ->PyData} (hn:∀ g,z03 (enc g)=true) (p:γ × Int):z03 (z0r enc p)=true:=by simp [z0r,z03,z05,hn]
theorem z32 {K:PySem.W.Frag} {H:Hp} {γ:Type} {enc:γ->PyData} {a:Addr} {u:V} {g:γ} {m:Int} (h:SqT K H a [u,.int m]) (h2:Dp K H u (enc g)):Dp K H (.ref a) (z0r enc (g,m)):=Dp.tup h (.cons h2 (.cons (.int m) .nil))
theorem Bears.snoc {K:PySem.W.Frag} {H:Hp} {β:Type} {enc:β->PyData} {vs:List V} {bs:List β} {b:β} (h:Bears K H enc vs (bs++[b])):∃ us u,vs=us++[u]/\Bears K H enc us bs/\Dp K H u (enc b):=by
 induction bs generalizing vs with
 | nil =>
  cases h with
  | cons h1 h2=>cases h2; exact ⟨[],_,rfl,.nil,h1⟩
 | cons c r ih =>
  cases h with
  | cons h1 h2 =>
   obtain ⟨us,u,e,h3,h4⟩:=ih h2
   exact ⟨_::us,u,by rw [e]; rfl,.cons h1 h3,h4⟩
theorem z77 {xs:List V} {x:V}:atI (xs++[x]) (-1)=some x:=by
 unfold atI ixN
 rw [if_neg (by decide),if_pos (by rw [List.length_append,List.length_singleton]; omega)]
 simp only [List.length_append,List.length_singleton,Option.bind_some]
 have:((-1:Int)+((xs.length+1:Nat):Int)).toNat=xs.length:=by omega
 rw [this]
 simp
theorem zbz {xs:List V} {x:V}:ixN (xs++[x]).length (-1)=some xs.length:=by
 unfold ixN
 rw [if_neg (by decide),if_pos (by rw [List.length_append,List.length_singleton]; omega),List.length_append,List.length_singleton]
 congr 1; omega
theorem zch {xs:List V} {x y:V}:(xs++[x]).set xs.length y=xs++[y]:=by simp
namespace Lad
theorem anti {a b:Lad × Int} (h1:dataLt (pEnc a) (pEnc b)=false) (h2:dataLt (pEnc b) (pEnc a)=false):a=b:=by
 rw [pLt] at h1 h2
 by_cases h:a.1=b.1
 ·rw [if_pos h] at h1
  rw [if_pos h.symm] at h2
  have e1:=of_decide_eq_false h1
  have e2:=of_decide_eq_false h2
  exact Prod.ext h (by omega)
 ·rw [if_neg h] at h1
  rw [if_neg (fun z:b.1=a.1=>h z.symm),lt_tri _ _ h h1] at h2
  cases h2
abbrev dsc (bs:List (Lad × Int)):List (Lad × Int):=bs.mergeSort (dataLe true pEnc)
theorem dsc_perm (bs:List (Lad × Int)):(dsc bs).Perm bs:=List.mergeSort_perm _ _
theorem dsc_le (bs:List (Lad × Int)):(dsc bs).Pairwise (fun a b=>dataLt (pEnc a) (pEnc b)=false):=by
 have h:=sort_pairwise (le:=dataLe true pEnc) (sortLe_total _ _ _) bs
 refine h.imp fun {a b} hab=>?_
 have h2:(!dataLt (pEnc a) (pEnc b))=true:=hab
 simpa using h2
/-- two falling arrangements of the same are one -/
theorem falls_one:∀ {as bs:List (Lad × Int)},as.Perm bs->as.Pairwise (fun a b=>dataLt (pEnc a) (pEnc b)=false)->bs.Pairwise (fun a b=>dataLt (pEnc a) (pEnc b)=false)->as=bs
 | [],bs,h,_,_=>(List.nil_perm.mp h).symm
 | a::as,[],h,_,_=>by have:=h.length_eq; simp at this
 | a::as,b::bs,h,h1,h2=>by
  have hab:a=b:=by
   have ha:a ∈ b::bs:=h.mem_iff.mp (mcs ..)
   have hb:b ∈ a::as:=h.mem_iff.mpr (mcs ..)
   rcases List.mem_cons.mp ha with ha | ha
   ·exact ha
   ·rcases List.mem_cons.mp hb with hb | hb
    ·exact hb.symm
    ·exact anti ((List.pairwise_cons.mp h1).1 b hb) ((List.pairwise_cons.mp h2).1 a ha)
  subst hab
  rw [falls_one (List.Perm.cons_inv h) (List.pairwise_cons.mp h1).2 (List.pairwise_cons.mp h2).2]
theorem dsc_of {cs bs:List (Lad × Int)} (hp:cs.Perm bs) (hs:cs.Pairwise (fun a b=>dataLt (pEnc a) (pEnc b)=false)):cs=dsc bs:=falls_one (hp.trans (dsc_perm bs).symm) hs (dsc_le bs)
theorem dsc_swap (as bs:List (Lad × Int)):dsc (as++bs)=dsc (bs++as):=dsc_of ((dsc_perm _).trans List.perm_append_comm) (dsc_le _)
/-- both together -/
def bth (l k:Lad):Lad:=ofPs (jn (dsc (l.ps++k.ps)))
theorem bth_comm (l k:Lad):bth l k=bth k l:=by unfold bth; rw [dsc_swap]
theorem ok_falls {B:Int} {l:Lad} (h:l.Ok B):l.ps.Pairwise (fun a b=>dataLt (pEnc a) (pEnc b)=false)/\l.ps.Pairwise (fun a b=>a.1 ≠ b.1):=by
 have h2:=(ok_iff.mp h).2
 constructor
 ·refine h2.imp fun {a b} hab=>?_
  rw [pLt,if_neg (fun z:a.1=b.1=>lt_ne hab z.symm)]
  exact lt_asymm hab
 ·exact h2.imp fun {a b} hab (z:a.1=b.1)=>lt_ne hab z.symm
theorem bth_nil {B:Int} {l:Lad} (h:l.Ok B):bth l .nil=l:=by
 unfold bth
 rw [show l.ps++(Lad.nil).ps=l.ps by simp [ps],<- dsc_of (List.Perm.refl _) (ok_falls h).1,zjj (ok_falls h).2,ofPs_ps]
theorem tot_jstep (acc:List (Lad × Int)) (p:Lad × Int):tot (z02 acc p)<=tot acc+(1+p.1.parts):=by
 rcases List.eq_nil_or_concat acc with h | ⟨a,z,h⟩
 ·subst h; simp [z0p,tot]
 ·subst h
  rw [List.concat_eq_append,z06]
  by_cases hz:z.1=p.1
  ·rw [if_pos hz,tot_append,tot_append]; simp only [tot]; rw [hz]; omega
  ·rw [if_neg hz,tot_append,tot_append]; simp only [tot]; omega
theorem tot_jn (bs:List (Lad × Int)):tot (jn bs)<=tot bs:=by
 have key:∀ (bs acc:List (Lad × Int)),tot (bs.foldl z02 acc)<=tot acc+tot bs:=by
  intro bs
  induction bs with
  | nil=>intro acc; simp [tot]
  | cons x r ih =>
   intro acc
   have h1:=ih (z02 acc x)
   have h2:=tot_jstep acc x
   show tot (r.foldl z02 (z02 acc x))<=tot acc+(1+x.1.parts+tot r)
   omega
 have:=key bs []
 simpa [jn,tot] using this
theorem bth_parts (l k:Lad):(bth l k).parts<=l.parts+k.parts:=by
 unfold bth
 rw [parts_ofPs]
 have h1:=tot_jn (dsc (l.ps++k.ps))
 rw [tot_perm (dsc_perm _),tot_append] at h1
 have h2:l.parts=tot l.ps:=by rw [<- parts_ofPs,ofPs_ps]
 have h3:k.parts=tot k.ps:=by rw [<- parts_ofPs,ofPs_ps]
 omega
theorem bth_deep {n:Nat} {l k:Lad} (hl:l.deep<=n) (hk:k.deep<=n):(bth l k).deep<=n:=by
 unfold bth
 refine deep_ofPs fun b hb=>?_
 obtain ⟨q,hq,e⟩:=z1v _ b hb
 rw [<- e]
 rcases List.mem_append.mp ((dsc_perm _).mem_iff.mp hq) with h | h
 ·exact deep_parts_mem hl q h
 ·exact deep_parts_mem hk q h
/-- so many of it -/
def tms (l:Lad) (m:Int):Lad:=if m=0 then .nil else ofPs (l.ps.map fun p=>(p.1,p.2*m))
theorem tot_map (f:Int->Int):∀ bs:List (Lad × Int),tot (bs.map fun p=>(p.1,f p.2))=tot bs
 | []=>rfl
 | p::r=>by show 1+p.1.parts+tot _=1+p.1.parts+tot r; rw [tot_map f r]
theorem tms_parts (l:Lad) (m:Int):(tms l m).parts<=l.parts:=by
 unfold tms
 split
 ·exact Nat.zero_le _
 ·rw [parts_ofPs,tot_map (fun x=>x*m),<- parts_ofPs,ofPs_ps]; exact Nat.le_refl _
theorem tms_deep {n:Nat} {l:Lad} (m:Int) (h:l.deep<=n):(tms l m).deep<=n:=by
 unfold tms
 split
 ·exact Nat.zero_le _
 ·refine deep_ofPs fun b hb=>?_
  obtain ⟨p,hp,rfl⟩:=List.mem_map.mp hb
  exact deep_parts_mem h p hp
end Lad
theorem Th.weak {K:PySem.W.Frag} {ps:List Addr} {H:Hp}:∀ {v:V} {d:PyData},Th K ps H v d->Th K [] H v d:=by
 intro v d h
 have key:∀ (n:Nat) (d:PyData) (v:V),sizeOf d < n->Th K ps H v d->Th K [] H v d:=by
  intro n
  induction n with
  | zero=>intro d v hn; omega
  | succ n ih =>
   intro d v hn h
   cases h with
   | int i=>exact .int i
   | oth ty k1 k2 hn=>exact .oth ty k1 k2 (fun _ _=>nmn)
   | @tup a xs ds hs ha =>
    refine .tup hs ?_
    have hl:∀ (xs:List V) (ds:List PyData),sizeOf ds < n+1->ThAll K ps H xs ds->ThAll K [] H xs ds:=by
     intro xs
     induction xs with
     | nil=>intro ds _ h; cases h; exact .nil
     | cons x r ihr =>
      intro ds hd h
      cases h with
      | @cons _ _ d1 dr h1 h2 =>
       have e:sizeOf (d1::dr)=1+sizeOf d1+sizeOf dr:=by simp
       exact .cons (ih d1 x (by omega) h1) (ihr dr (by omega) h2)
    have e:sizeOf (PyData.tuple ds)=1+sizeOf ds:=by simp
    exact hl xs ds (by omega) ha
 exact key (sizeOf d+1) d v (by omega) h
theorem ThAll.append {K:PySem.W.Frag} {ps:List Addr} {H:Hp}:∀ {xs ys:List V} {ds es:List PyData},ThAll K ps H xs ds->ThAll K ps H ys es->ThAll K ps H (xs++ys) (ds++es)
 | _,_,_,_,.nil,h=>h
 | _,_,_,_,.cons a b,h=>.cons a (ThAll.append b h)
theorem ThAll.reverse {K:PySem.W.Frag} {ps:List Addr} {H:Hp}:∀ {xs:List V} {ds:List PyData},ThAll K ps H xs ds->ThAll K ps H xs.reverse ds.reverse
 | _,_,.nil=>.nil
 | _,_,.cons a b=>by
  rw [List.reverse_cons,List.reverse_cons]
  exact ThAll.append (ThAll.reverse b) (.cons a .nil)
theorem ThAll.take {K:PySem.W.Frag} {ps:List Addr} {H:Hp} (n:Nat):∀ {xs:List V} {ds:List PyData},ThAll K ps H xs ds->ThAll K ps H (xs.take n) (ds.take n):=by
 induction n with
 | zero=>intro xs ds h; rw [List.take_zero,List.take_zero]; exact .nil
 | succ n ih =>
  intro xs ds h
  cases h with
  | nil=>exact .nil
  | cons a b=>exact .cons a (ih b)
theorem ThAll.drop {K:PySem.W.Frag} {ps:List Addr} {H:Hp} (n:Nat):∀ {xs:List V} {ds:List PyData},ThAll K ps H xs ds->ThAll K ps H (xs.drop n) (ds.drop n):=by
 induction n with
 | zero=>intro xs ds h; exact h
 | succ n ih =>
  intro xs ds h
  cases h with
  | nil=>exact .nil
  | cons a b=>exact ih b
/-- how far a thing goes: depth and width -/
def Fits (n m:Nat) (d:PyData):Prop:=d.depth<=n/\wide d<=m
theorem Fits.mono {n m n' m':Nat} {d:PyData} (h:Fits n m d) (h1:n<=n') (h2:m<=m'):Fits n' m' d:=⟨Nat.le_trans h.1 h1,Nat.le_trans h.2 h2⟩
namespace Lad
theorem sumAt_nil (x:Lad):sumAt [] x=0:=rfl
theorem sumAt_cons (e:Lad) (m:Int) (r:List (Lad × Int)) (x:Lad):sumAt ((e,m)::r) x=(if e=x then m else 0)+sumAt r x:=by
 unfold sumAt
 rw [List.filter_cons]
 by_cases h:e=x
 ·simp [h]
 ·simp [h]
theorem sumAt_append (as bs:List (Lad × Int)) (x:Lad):sumAt (as++bs) x=sumAt as x+sumAt bs x:=by
 unfold sumAt
 rw [List.filter_append,List.map_append,List.sum_append]
theorem sumAt_zero {bs:List (Lad × Int)} {x:Lad} (h:∀ p ∈ bs,p.1 ≠ x):sumAt bs x=0:=by
 unfold sumAt
 have:bs.filter (fun p=>decide (p.1=x))=[]:=by
  rw [List.filter_eq_nil_iff]
  intro p hp
  simpa using h p hp
 rw [this]; rfl
theorem sumAt_perm {as bs:List (Lad × Int)} (h:as.Perm bs) (x:Lad):sumAt as x=sumAt bs x:=by
 induction h with
 | nil=>rfl
 | cons p _ ih=>obtain ⟨e,m⟩:=p; rw [sumAt_cons,sumAt_cons,ih]
 | swap p q l=>obtain ⟨e,m⟩:=p; obtain ⟨e',m'⟩:=q; rw [sumAt_cons,sumAt_cons,sumAt_cons,sumAt_cons]; omega
 | trans _ _ h1 h2=>omega
theorem sumAt_jstep (acc:List (Lad × Int)) (p:Lad × Int) (x:Lad):sumAt (z02 acc p) x=sumAt acc x+(if p.1=x then p.2 else 0):=by
 obtain ⟨e,m⟩:=p
 rcases List.eq_nil_or_concat acc with h | ⟨a,z,h⟩
 ·subst h; rw [z0p,sumAt_cons,sumAt_nil]; show (if e=x then m else 0)+0=0+(if e=x then m else 0); omega
 ·subst h
  obtain ⟨e',m'⟩:=z
  rw [List.concat_eq_append,z06]
  by_cases hz:e'=e
  ·rw [if_pos hz,sumAt_append,sumAt_append,sumAt_cons,sumAt_cons,sumAt_nil]
   subst hz
   by_cases hx:e'=x
   ·simp only [if_pos hx]; omega
   ·simp only [if_neg hx]; omega
  ·rw [if_neg hz,sumAt_append,sumAt_append,sumAt_cons,sumAt_cons,sumAt_nil]; show _=_+(if e=x then m else 0); omega
theorem sumAt_jn (bs:List (Lad × Int)) (x:Lad):sumAt (jn bs) x=sumAt bs x:=by
 have key:∀ (bs acc:List (Lad × Int)),sumAt (bs.foldl z02 acc) x=sumAt acc x+sumAt bs x:=by
  intro bs
  induction bs with
  | nil=>intro acc; show sumAt acc x=_; rw [sumAt_nil]; omega
  | cons p r ih =>
   intro acc
   obtain ⟨e,m⟩:=p
   show sumAt (r.foldl z02 (z02 acc (e,m))) x=_
   rw [ih,sumAt_jstep,sumAt_cons]
   show _+(if e=x then m else 0)+_=_
   omega
 have:=key bs []
 rw [sumAt_nil] at this
 unfold jn
 omega
theorem sumAt_map (f:Int->Int) (hf:f 0=0) (hadd:∀ a b,f (a+b)=f a+f b):∀ (bs:List (Lad × Int)) (x:Lad),sumAt (bs.map fun p=>(p.1,f p.2)) x=f (sumAt bs x)
 | [],x=>by show sumAt [] x=_; rw [sumAt_nil,hf]
 | (e,m)::r,x=>by
  show sumAt ((e,f m)::r.map _) x=_
  rw [sumAt_cons,sumAt_cons,sumAt_map f hf hadd r x,hadd]
  by_cases h:e=x
  ·rw [if_pos h,if_pos h]
  ·rw [if_neg h,if_neg h,hf]
/-- the many at an exponent -/
abbrev S (l:Lad) (x:Lad):Int:=sumAt l.ps x
section
variable {B C:Int}
theorem S_top {e:Lad} {m:Int} {r:Lad} (h:(Lad.cons e m r).Ok B):S (.cons e m r) e=m:=by
 show sumAt ((e,m)::r.ps) e=m
 rw [sumAt_cons,if_pos rfl,sumAt_zero fun p hp=>lt_ne (h.2.2.2.2 p hp)]
 omega
theorem S_above {e:Lad} {m:Int} {r x:Lad} (h:(Lad.cons e m r).Ok B) (hx:e.lt x=true):S (.cons e m r) x=0:=by
 show sumAt ((e,m)::r.ps) x=0
 rw [sumAt_cons,if_neg (lt_ne hx),sumAt_zero fun p hp=>lt_ne (lt_trans _ _ _ (h.2.2.2.2 p hp) hx)]
 rfl
theorem S_mem {l:Lad} (h:l.Ok B) {p:Lad × Int} (hp:p ∈ l.ps):S l p.1=p.2:=by
 induction l with
 | nil=>cases hp
 | cons e m r _ ih =>
  rcases List.mem_cons.mp hp with hp | hp
  ·subst hp; exact S_top h
  ·show sumAt ((e,m)::r.ps) p.1=p.2
   rw [sumAt_cons,if_neg (fun z=>lt_ne (h.2.2.2.2 p hp) z.symm)]
   have:=ih h.2.2.2.1 hp
   show 0+S r p.1=_
   omega
theorem S_none {l x:Lad} (h:∀ p ∈ l.ps,p.1 ≠ x):S l x=0:=sumAt_zero h
theorem S_cases {l:Lad} (h:l.Ok B) (x:Lad):(S l x=0/\∀ p ∈ l.ps,p.1 ≠ x)\/(∃ m,(x,m) ∈ l.ps/\S l x=m/\1<=m/\m < B):=by
 by_cases hx:∃ p ∈ l.ps,p.1=x
 ·obtain ⟨p,hp,rfl⟩:=hx
  have:=(ok_iff.mp h).1 p hp
  exact .inr ⟨p.2,hp,S_mem h hp,this.2⟩
 ·have hx':∀ p ∈ l.ps,p.1 ≠ x:=fun p hp z=>hx ⟨p,hp,z⟩
  exact .inl ⟨S_none hx',hx'⟩
theorem S_nonneg {l:Lad} (h:l.Ok B) (x:Lad):0<=S l x:=by
 rcases S_cases h x with h1 | ⟨m,_,h1,h2,_⟩ <;> omega
/-- less by the first exponent,from above,at which they differ -/
def LT' (l k:Lad):Prop:=∃ x,S l x < S k x/\∀ y,x.lt y=true->S l y=S k y
theorem lt_of {l k:Lad}:∀ (_:l.Ok B) (_:k.Ok C),l.lt k=true->LT' l k:=by
 induction l generalizing k with
 | nil =>
  intro hl hk h
  cases k with
  | nil=>rw [lt_nil_nil] at h; cases h
  | cons e m r =>
   refine ⟨e,?_,fun y hy=>?_⟩
   ·rw [S_top hk]; show sumAt [] e < m; rw [sumAt_nil]; have:=hk.2.1; omega
   ·rw [S_above hk hy]; rfl
 | cons e m r _ ih =>
  intro hl hk h
  cases k with
  | nil=>rw [lt_cons_nil] at h; cases h
  | cons e' m' r' =>
   rw [lt_cons] at h
   by_cases he:e=e'
   ·subst he
    rw [if_pos rfl] at h
    by_cases hm:m=m'
    ·subst hm
     rw [if_pos rfl] at h
     obtain ⟨x,h1,h2⟩:=ih hl.2.2.2.1 hk.2.2.2.1 h
     refine ⟨x,?_,fun y hy=>?_⟩
     ·show sumAt ((e,m)::r.ps) x < sumAt ((e,m)::r'.ps) x
      rw [sumAt_cons,sumAt_cons]
      have:sumAt r.ps x < sumAt r'.ps x:=h1
      omega
     ·show sumAt ((e,m)::r.ps) y=sumAt ((e,m)::r'.ps) y
      rw [sumAt_cons,sumAt_cons]
      have:sumAt r.ps y=sumAt r'.ps y:=h2 y hy
      omega
    ·rw [if_neg hm] at h
     exact ⟨e,by rw [S_top hl,S_top hk]; exact of_decide_eq_true h,fun y hy=>by rw [S_above hl hy,S_above hk hy]⟩
   ·rw [if_neg he] at h
    refine ⟨e',?_,fun y hy=>?_⟩
    ·rw [S_above hl h,S_top hk]; have:=hk.2.1; omega
    ·rw [S_above hl (lt_trans _ _ _ h hy),S_above hk hy]
theorem LT'.asymm {l k:Lad} (h:LT' l k) (h2:LT' k l):False:=by
 obtain ⟨x,a1,a2⟩:=h
 obtain ⟨y,b1,b2⟩:=h2
 by_cases e:x=y
 ·subst e; omega
 ·cases hxy:x.lt y with
  | true=>have:=a2 y hxy; omega
  | false=>have:=b2 x (lt_tri x y e hxy); omega
theorem lt_iff {l k:Lad} (hl:l.Ok B) (hk:k.Ok C):l.lt k=true ↔ LT' l k:=by
 constructor
 ·exact lt_of hl hk
 ·intro h
  cases e:l.lt k with
  | true=>rfl
  | false =>
   by_cases hlk:l=k
   ·subst hlk; obtain ⟨x,h1,_⟩:=h; omega
   ·exact (LT'.asymm h (lt_of hk hl (lt_tri l k hlk e))).elim
theorem le_iff {l k:Lad} (hl:l.Ok B) (hk:k.Ok C) (h:¬ LT' l k):l.lt k=false:=by
 cases e:l.lt k with
 | false=>rfl
 | true=>exact (h (lt_of hl hk e)).elim
/-- two right ladders with the same numbers are one -/
theorem ext {l k:Lad} (hl:l.Ok B) (hk:k.Ok C) (h:∀ x,S l x=S k x):l=k:=by
 by_cases e:l=k
 ·exact e
 ·cases hlk:l.lt k with
  | true=>obtain ⟨x,h1,_⟩:=lt_of hl hk hlk; have:=h x; omega
  | false=>obtain ⟨x,h1,_⟩:=lt_of hk hl (lt_tri l k e hlk); have:=h x; omega
theorem jn_desc {bs:List (Lad × Int)} (h:bs.Pairwise (fun a b=>a.1.lt b.1=false)):(jn bs).Pairwise (fun p q=>q.1.lt p.1=true):=by
 have key:∀ (bs acc:List (Lad × Int)),acc.Pairwise (fun p q=>q.1.lt p.1=true)->(∀ a ∈ acc,∀ b ∈ bs,a.1.lt b.1=false)->bs.Pairwise (fun a b=>a.1.lt b.1=false)->(bs.foldl z02 acc).Pairwise (fun p q=>q.1.lt p.1=true):=by
  intro bs
  induction bs with
  | nil=>intro acc h _ _; exact h
  | cons p r ih =>
   intro acc h1 h2 h3
   obtain ⟨h31,h32⟩:=List.pairwise_cons.mp h3
   refine ih (z02 acc p) ?_ ?_ h32
   ·rcases List.eq_nil_or_concat acc with h | ⟨a,z,h⟩
    ·subst h; rw [z0p]; exact List.pairwise_singleton _ _
    ·subst h
     rw [List.concat_eq_append] at h1 h2 ⊢
     rw [z06]
     obtain ⟨a1,_,a3⟩:=List.pairwise_append.mp h1
     by_cases hz:z.1=p.1
     ·rw [if_pos hz,List.pairwise_append]
      refine ⟨a1,List.pairwise_singleton _ _,fun x hx y hy=>?_⟩
      have hy':y=(p.1,z.2+p.2):=by simpa using hy
      subst hy'
      show p.1.lt x.1=true
      rw [<- hz]; exact a3 x hx z (by simp)
     ·rw [if_neg hz,List.pairwise_append]
      refine ⟨h1,List.pairwise_singleton _ _,fun x hx y hy=>?_⟩
      have hy':y=p:=by simpa using hy
      subst hy'
      have hzp:y.1.lt z.1=true:=lt_tri _ _ hz (h2 z (by simp) y (mcs ..))
      rcases List.mem_append.mp hx with hx | hx
      ·exact lt_trans _ _ _ hzp (a3 x hx z (by simp))
      ·have hx':x=z:=by simpa using hx
       subst hx'; exact hzp
   ·intro a ha b hb
    have hpb:=h31 b hb
    rcases List.eq_nil_or_concat acc with h | ⟨c,z,h⟩
    ·subst h
     rw [z0p] at ha
     have:a=p:=by simpa using ha
     subst this; exact hpb
    ·subst h
     rw [List.concat_eq_append] at ha h2
     rw [z06] at ha
     by_cases hz:z.1=p.1
     ·rw [if_pos hz] at ha
      rcases List.mem_append.mp ha with ha | ha
      ·exact h2 a (mal _ ha) b (mcm _ hb)
      ·have:a=(p.1,z.2+p.2):=by simpa using ha
       subst this; exact hpb
     ·rw [if_neg hz] at ha
      rcases List.mem_append.mp ha with ha | ha
      ·exact h2 a ha b (mcm _ hb)
      ·have:a=p:=by simpa using ha
       subst this; exact hpb
 exact key bs [] List.Pairwise.nil (by simp) h
theorem dsc_keys (bs:List (Lad × Int)):(dsc bs).Pairwise (fun a b=>a.1.lt b.1=false):=by
 refine (dsc_le bs).imp fun {a b} hab=>?_
 rw [pLt] at hab
 by_cases h:a.1=b.1
 ·rw [h]; exact lt_irrefl _
 ·rw [if_neg h] at hab; exact hab
theorem S_bth (l k x:Lad):S (bth l k) x=S l x+S k x:=by
 show sumAt (ofPs (jn (dsc (l.ps++k.ps)))).ps x=_
 rw [ps_ofPs,sumAt_jn,sumAt_perm (dsc_perm _),sumAt_append]
theorem ok_pos {l:Lad} (h:l.Ok B) (hB:0<=B) (x:Lad):S l x<=B:=by
 rcases S_cases h x with h1 | ⟨m,_,h1,h2,h3⟩ <;> omega
theorem bth_ok {l k:Lad} (hl:l.Ok B) (hk:k.Ok C) (hB:1<=B) (hC:1<=C):(bth l k).Ok (B+C):=by
 have hd:(jn (dsc (l.ps++k.ps))).Pairwise (fun p q=>q.1.lt p.1=true):=jn_desc (dsc_keys _)
 show (ofPs (jn (dsc (l.ps++k.ps)))).Ok (B+C)
 rw [ok_ps]
 refine ⟨fun p hp=>?_,hd⟩
 have hs:sumAt (jn (dsc (l.ps++k.ps))) p.1=p.2:=by
  have hnd:∀ (bs:List (Lad × Int)),bs.Pairwise (fun p q=>q.1.lt p.1=true)->∀ p ∈ bs,sumAt bs p.1=p.2:=by
   intro bs
   induction bs with
   | nil=>intro _ p hp; cases hp
   | cons q r ih =>
    intro hpw p hp
    obtain ⟨e,m⟩:=q
    obtain ⟨h1,h2⟩:=List.pairwise_cons.mp hpw
    rw [sumAt_cons]
    rcases List.mem_cons.mp hp with hp | hp
    ·subst hp
     rw [if_pos rfl,sumAt_zero fun q hq=>lt_ne (h1 q hq)]
     omega
    ·rw [if_neg (fun z=>lt_ne (h1 p hp) z.symm),ih h2 p hp]
     omega
  exact hnd _ hd p hp
 have hs2:p.2=S l p.1+S k p.1:=by
  rw [<- hs,sumAt_jn,sumAt_perm (dsc_perm _),sumAt_append]
 obtain ⟨q,hq,eq⟩:=z1v _ p hp
 have hq':=(dsc_perm _).mem_iff.mp hq
 have n1:=S_nonneg hl p.1
 have n2:=S_nonneg hk p.1
 have hlt:S l p.1 < B:=by rcases S_cases hl p.1 with h1 | ⟨m,_,h1,h2,h3⟩ <;> omega
 have hkt:S k p.1 < C:=by rcases S_cases hk p.1 with h1 | ⟨m,_,h1,h2,h3⟩ <;> omega
 have grow:∀ (e:Lad),e.Ok B->e.Ok (B+C):=fun e h=>h.mono (by omega)
 have grow2:∀ (e:Lad),e.Ok C->e.Ok (B+C):=fun e h=>h.mono (by omega)
 rcases List.mem_append.mp hq' with hq2 | hq2
 ·have o:=(ok_iff.mp hl).1 q hq2
  have sm:=S_mem hl hq2
  rw [eq] at sm o
  exact ⟨grow _ o.1,by omega,by omega⟩
 ·have o:=(ok_iff.mp hk).1 q hq2
  have sm:=S_mem hk hq2
  rw [eq] at sm o
  exact ⟨grow2 _ o.1,by omega,by omega⟩
/-- no exponent is above x -/
def cov (k x:Lad):Bool:=k.ps.all fun p=>!x.lt p.1
theorem cov_iff {k:Lad} (hk:k.Ok B) (x:Lad):cov k x=true ↔ ∀ y,x.lt y=true->S k y=0:=by
 unfold cov
 rw [List.all_eq_true]
 constructor
 ·intro h y hy
  refine S_none fun p hp z=>?_
  have:=h p hp
  rw [z,hy] at this
  cases this
 ·intro h p hp
  cases e:x.lt p.1 with
  | false=>rfl
  | true =>
   have h1:=h p.1 e
   rw [S_mem hk hp] at h1
   have:=(ok_iff.mp hk).1 p hp
   omega
theorem S_bhd {l k:Lad} (hk:k.Ok B) (x:Lad):S (bhd l k) x=(if cov k x=true then S l x else 0)+S k x:=by
 cases k with
 | nil =>
  rw [bhd_nil]
  show S l x=(if cov .nil x=true then S l x else 0)+sumAt [] x
  rw [sumAt_nil,if_pos (show cov .nil x=true from rfl)]; omega
 | cons e m r =>
  have hcov:cov (.cons e m r) x=!x.lt e:=by
   unfold cov
   show (!x.lt e&&r.ps.all fun p=>!x.lt p.1)=_
   cases h:x.lt e with
   | true=>rfl
   | false =>
    have:r.ps.all (fun p=>!x.lt p.1)=true:=by
     rw [List.all_eq_true]
     intro p hp
     rw [le_trans (le_of_lt (hk.2.2.2.2 p hp)) h]; rfl
    rw [this]; rfl
  rw [bhd_cons]
  show sumAt (ofPs _).ps x=_
  rw [ps_ofPs,sumAt_append,sumAt_cons,hcov]
  show sumAt (l.ps.filter fun p=>e.lt p.1) x+((if e=x then sumAt l.ps e+m else 0)+sumAt r.ps x)=(if (!x.lt e)=true then sumAt l.ps x else 0)+sumAt ((e,m)::r.ps) x
  rw [sumAt_cons]
  have hf:sumAt (l.ps.filter fun p=>e.lt p.1) x=if e.lt x=true then sumAt l.ps x else 0:=by
   unfold sumAt
   rw [List.filter_filter]
   by_cases h:e.lt x=true
   ·rw [if_pos h]
    congr 2
    refine List.filter_congr fun p hp=>?_
    by_cases hp2:p.1=x
    ·simp [hp2,h]
    ·simp [hp2]
   ·rw [if_neg h]
    have:l.ps.filter (fun p=>decide (p.1=x)&&e.lt p.1)=[]:=by
     rw [List.filter_eq_nil_iff]
     intro p hp hc
     rw [Bool.and_eq_true] at hc
     have h1:p.1=x:=of_decide_eq_true hc.1
     rw [h1] at hc
     exact h hc.2
    rw [this]; rfl
  rw [hf]
  by_cases hx:e=x
  ·subst hx
   rw [lt_irrefl]
   simp
   omega
  ·cases h1:e.lt x with
   | true =>
    rw [lt_asymm h1]
    simp [hx]
   | false =>
    rw [lt_tri e x hx h1]
    simp [hx]
theorem bhd_ok {l k:Lad} (hl:l.Ok B) (hk:k.Ok C) (hB:1<=B) (hC:1<=C):(bhd l k).Ok (B+C):=by
 cases k with
 | nil=>rw [bhd_nil]; exact hl.mono (by omega)
 | cons e m r =>
  rw [bhd_cons,ok_ps]
  obtain ⟨h1,h2,h3,h4,h5⟩:=hk
  obtain ⟨a1,a2⟩:=ok_iff.mp hl
  obtain ⟨b1,b2⟩:=ok_iff.mp h4
  have n1:=S_nonneg hl e
  have hlt:S l e < B:=by rcases S_cases hl e with g1 | ⟨m,_,g1,g2,g3⟩ <;> omega
  constructor
  ·intro p hp
   rcases List.mem_append.mp hp with hp | hp
   ·have:=a1 p (List.mem_filter.mp hp).1
    exact ⟨this.1.mono (by omega),this.2.1,by omega⟩
   ·rcases List.mem_cons.mp hp with hp | hp
    ·subst hp
     exact ⟨h1.mono (by omega),by show 1<=S l e+m; omega,by show S l e+m < B+C; omega⟩
    ·have:=b1 p hp
     exact ⟨this.1.mono (by omega),this.2.1,by omega⟩
  ·rw [List.pairwise_append,List.pairwise_cons]
   refine ⟨a2.sublist List.filter_sublist,⟨h5,b2⟩,fun a ha b hb=>?_⟩
   have ha':=(List.mem_filter.mp ha).2
   rcases List.mem_cons.mp hb with hb | hb
   ·subst hb; exact ha'
   ·exact lt_trans _ _ _ (h5 b hb) ha'
theorem bth_ge_bhd {a b:Lad} (ha:a.Ok B) (hb:b.Ok C) (hB:1<=B) (hC:1<=C):(bth a b).lt (bhd a b)=false:=by
 refine le_iff (bth_ok ha hb hB hC) (bhd_ok ha hb hB hC) ?_
 rintro ⟨x,h1,_⟩
 rw [S_bth,S_bhd hb] at h1
 have:=S_nonneg ha x
 split at h1 <;> omega
theorem cov_same {b c:Lad} (hb:b.Ok B) (hc:c.Ok C) {x:Lad} (h:∀ y,x.lt y=true->S b y=S c y):cov b x=cov c x:=by
 rw [Bool.eq_iff_iff,cov_iff hb,cov_iff hc]
 exact ⟨fun g y hy=>by rw [<- h y hy]; exact g y hy,fun g y hy=>by rw [h y hy]; exact g y hy⟩
theorem bhd_mono {a b c:Lad} {D:Int} (ha:a.Ok B) (hb:b.Ok C) (hc:c.Ok D) (hB:1<=B) (hC:1<=C) (hD:1<=D) (h:b.lt c=true):(bhd a b).lt (bhd a c)=true:=by
 rw [lt_iff (bhd_ok ha hb hB hC) (bhd_ok ha hc hB hD)]
 obtain ⟨x,h1,h2⟩:=lt_of hb hc h
 refine ⟨x,?_,fun y hy=>?_⟩
 ·rw [S_bhd hb,S_bhd hc,cov_same hb hc h2]; omega
 ·rw [S_bhd hb,S_bhd hc,cov_same hb hc (x:=y) (fun z hz=>h2 z (lt_trans _ _ _ hy hz)),h2 y hy]
theorem bth_mono {a b c:Lad} {D:Int} (ha:a.Ok B) (hb:b.Ok C) (hc:c.Ok D) (hB:1<=B) (hC:1<=C) (hD:1<=D) (h:b.lt c=true):(bth a b).lt (bth a c)=true:=by
 rw [lt_iff (bth_ok ha hb hB hC) (bth_ok ha hc hB hD)]
 obtain ⟨x,h1,h2⟩:=lt_of hb hc h
 exact ⟨x,by rw [S_bth,S_bth]; omega,fun y hy=>by rw [S_bth,S_bth,h2 y hy]⟩
theorem bhd_first {a b c:Lad} {D:Int} (ha:a.Ok B) (hb:b.Ok C) (hc:c.Ok D) (hB:1<=B) (hC:1<=C) (hD:1<=D) (h:b.lt c=true):(bhd c a).lt (bhd b a)=false:=by
 refine le_iff (bhd_ok hc ha hD hB) (bhd_ok hb ha hC hB) ?_
 rintro ⟨y,h1,h2⟩
 rw [S_bhd ha,S_bhd ha] at h1
 have hcov:cov a y=true:=by
  cases e:cov a y with
  | true=>rfl
  | false=>rw [e] at h1; simp at h1
 rw [hcov] at h1
 refine LT'.asymm (lt_of hb hc h) ⟨y,by simpa using h1,fun z hz=>?_⟩
 have h3:=h2 z hz
 have hz':cov a z=true:=by
  rw [cov_iff ha] at hcov ⊢
  exact fun u hu=>hcov u (lt_trans _ _ _ hz hu)
 rw [S_bhd ha,S_bhd ha,if_pos hz',if_pos hz'] at h3
 omega
theorem S_tms (l:Lad) (m:Int) (x:Lad):S (tms l m) x=S l x*m:=by
 unfold tms
 by_cases h:m=0
 ·rw [if_pos h,h]; show sumAt [] x=_; rw [sumAt_nil,Int.mul_zero]
 ·rw [if_neg h]
  show sumAt (ofPs _).ps x=_
  rw [ps_ofPs]
  exact sumAt_map (fun a=>a*m) (Int.zero_mul m) (fun a b=>Int.add_mul a b m) l.ps x
theorem tms_ok {l:Lad} {m:Int} (hl:l.Ok B) (hm:0<=m):(tms l m).Ok (B*m+B):=by
 unfold tms
 by_cases h:m=0
 ·rw [if_pos h]; trivial
 ·rw [if_neg h,ok_ps]
  obtain ⟨a1,a2⟩:=ok_iff.mp hl
  constructor
  ·intro p hp
   obtain ⟨q,hq,rfl⟩:=List.mem_map.mp hp
   obtain ⟨g1,g2,g3⟩:=a1 q hq
   have hB:0<=B:=by omega
   have b1:q.2*m<=B*m:=Int.mul_le_mul_of_nonneg_right (by omega) hm
   have b2:1*1<=q.2*m:=Int.mul_le_mul g2 (by omega) (by omega) (by omega)
   have b3:0<=B*m:=Int.mul_nonneg hB hm
   exact ⟨g1.mono (by omega),by show 1<=q.2*m; omega,by show q.2*m < B*m+B; omega⟩
  ·rw [List.pairwise_map]
   exact a2
end
end Lad
namespace Lad
section
variable {B C:Int}
theorem nil_le (k:Lad):k ≠ .nil->Lad.lt .nil k=true:=by
 cases k with
 | nil=>intro h; exact absurd rfl h
 | cons e m r=>intro _; exact lt_nil_cons e m r
theorem bhd_ge {l k:Lad} (hl:l.Ok B) (hk:k.Ok C) (hB:1<=B) (hC:1<=C):(bhd l k).lt l=false:=by
 by_cases h:k=.nil
 ·subst h; rw [bhd_nil]; exact lt_irrefl _
 ·have:=bhd_mono (a:=l) (b:=.nil) (c:=k) (C:=1) hl trivial hk hB (by decide) hC (nil_le k h)
  rw [bhd_nil] at this
  exact lt_asymm this
end
end Lad
/-- a class of errors of the program's own -/
structure Own (K:PySem.W.Frag) (mg:Str->Option Value) (x:Str) (C:Addr):Prop where
 gC:mg x=some (.ref C)
 q:PySem.W.excIn K C He.veBase "ValueError.__new__"=true
 k:PySem.W.keepIn K (.ref C)=true
 s:PySem.W.subIn K (.ref C) (.type "BaseException")=some true
 t:PySem.W.typeIn K (.ref C)=some (.type "type")
/-- as Got,for a def that may raise -/
structure GotX (P:Program) (w:World) (K:PySem.W.Frag) (mg:Str->Option Value) (base:Heap) (x:Str) (ps:List Str) (k:Nat) (sp:Sp):Prop where
 ex:∃ (f:Addr) (fd:FuncData),FnOk P w K mg base (L2.CX P w) k f fd ps sp/\PySem.W.keepIn K (.ref f)=true/\Binds K fd ps []/\mg x=some (.ref f)
section
variable {X:Cx} {x:Str} {ps:List Str} {k:Nat} {sp:Sp} {e:Expr} {es:List Expr} {t:TA} {p pos:Pos}
theorem z3a (G:GotX X.prog X.w X.K X.mg X.base x ps k sp) (hr:Room k X.A) (hg:Gl X x) (ha:PA X (e::es) t) (hdb:(x == ("__debug__":Str))=false:=by decide) (he:starEach (e::es) X.env=(false,eval e X.env)::starEach es X.env:=by rfl) (hpl:(backTo pos (starEach es X.env)).any (·.1)=false:=by rfl) :
  PE X (.Call (.Name x p) (e::es) [] pos) (tCall sp [] E0 t):=by
 obtain ⟨f,fd,h1,h2,h3,h4⟩:=G.ex
 exact pe_call h1 hr hg h4 h2 h3 .nil passL ha hdb he hpl
theorem z0n {W:WX} (G:GotX X.prog X.w X.K X.mg X.base x ps k sp) (hr:Room k X.A) (hg:Gl X x) (tk:Takes X W) (ha:PA X (e::es) t) (hdb:(x == ("__debug__":Str))=false:=by decide) (he:starEach (e::es) X.env=(false,eval e X.env)::starEach es X.env:=by rfl) (hpl:(backTo pos (starEach es X.env)).any (·.1)=false:=by rfl) :
  PE X (.Call (.Name x p) (e::es) [] pos) (tCallS sp (WE W) t):=by
 obtain ⟨f,fd,h1,h2,h3,h4⟩:=G.ex
 exact pe_callS h1 hr hg h4 h2 h3 (fun σ=>passAt tk σ) ha hdb he hpl
end
abbrev AlE:Type:=He.AlD × Bool
def obsE (n:Nat) (fa:List He.Fa) (fn:List He.DefD) (ex:PySem.W.Frag->Bool) (g:Addr->Option Obj):AlE:=(He.obsD fa fn (He.frG g (He.asD g n)),ex (He.frG g (He.asD g n)))
def zeq (n:Nat) (fa:List He.Fa) (fn:List He.DefD) (ex:PySem.W.Frag->Bool):PySem.W.Hook where
 α:=AlE
 obs:=fun s=>obsE n fa fn ex s.heap.get?
 val:=fun _=>(He.valD fn,true)
 says:=fun _ h=>∃ K:PySem.W.Frag,K.In h/\He.SaysD fa fn K/\ex K=true
 of:=fun _ _ e=>⟨_,He.frG_in,congrArg (fun z:AlE=>z.1) e,congrArg (fun z:AlE=>z.2) e⟩
 keeps:=fun _ _ _ ⟨K,hK,c⟩ k=>⟨K,PySem.W.Frag.In.keeps hK k,c⟩
theorem zfw {n:Nat} {fa:List He.Fa} {fn:List He.DefD} {ex:PySem.W.Frag->Bool} {g:Addr->Option Obj} {s:Shared} (h:∀ a,g a=s.heap.get? a):obsE n fa fn ex g=(zeq n fa fn ex).obs s:=by
 have e:g=s.heap.get?:=funext h
 rw [e] <;> rfl
/-- what isinstance wants of an own class of errors,as a test -/
def zam (K:PySem.W.Frag) (D:Addr):Bool :=
 He.eqO (PySem.W.findIn K (.ref D) "__getattribute__") (some (some (.builtin "BaseException.__getattribute__")))&&(He.eqO (PySem.W.findIn K (.ref D) "__getattr__") (some none)&&(decide (PySem.W.subIn K (.ref D) (.type "BaseException")=some true)&&(PySem.W.hasDictIn K D&&(He.eqO (PySem.W.findIn K (.ref D) "__class__") (some (some (.builtin "object.__class__"))) &&
 (He.eqO (PySem.W.specialIn K (.builtin "object.__class__") "__get__") (some (some (.builtin "getset_descriptor.__get__")))&&(decide (PySem.W.takesIn K (.builtin "object.__class__")=some true)&&decide (PySem.W.mroIn K D (.type "object")=some true)))))))
theorem zd9 {K:PySem.W.Frag} {D:Addr} (h:zam K D=true):ExcC K D:=by
 obtain ⟨h1,h⟩:=He.ba h
 obtain ⟨h2,h⟩:=He.ba h
 obtain ⟨h3,h⟩:=He.ba h
 obtain ⟨h4,h⟩:=He.ba h
 obtain ⟨h5,h⟩:=He.ba h
 obtain ⟨h6,h⟩:=He.ba h
 obtain ⟨h7,h8⟩:=He.ba h
 exact ⟨He.eqO_ok h1,He.eqO_ok h2,of_decide_eq_true h3,h4,He.eqO_ok h5,He.eqO_ok h6,of_decide_eq_true h7,of_decide_eq_true h8⟩
section
variable {J:It} {n:Nat} {G:Hp->Prop} {Y:Nat->Hp->V->Hp->Prop}
theorem lcG (w:Walk J n G Y) {H0:Hp} {Qd:Hp->Prop} {body:(Hp->Prop)->V->Hp->Prop} (Pv:Nat->Hp->Prop) (h0:Pv 0 H0) (hG:∀ i H,i<=n->Pv i H->G H)
  (hs:∀ i x H H',i < n->Pv i H->Y i H x H'->body (Pv (i+1)) x H') (hd:∀ H,Pv n H->Qd H) :
  ∃ W:Nat->Nat->Hp->Prop,(∃ m,W 0 m H0)/\∀ i m H,W i m H ->
   (J.stop i H/\Qd H)\/(J.go i H/\∃ Nx:Hp->Prop,(∀ H',Nx H'->∃ m',m' < m/\W (i+1) m' H')/\∀ x H',J.yld i H x H'->body Nx x H'):=by
 refine ⟨fun i m H=>m=n-i/\i<=n/\Pv i H,⟨n,by simp,Nat.zero_le _,h0⟩,?_⟩
 rintro i m H ⟨rfl,hi,p⟩
 have q:=hG i H hi p
 by_cases hlt:i < n
 ·exact .inr ⟨w.goes i H hlt q,Pv (i+1),fun H' p'=>⟨n-(i+1),by omega,rfl,hlt,p'⟩,fun x H' y=>hs i x H H' hlt p (w.yields i H x H' hlt q y)⟩
 ·have e:i=n:=by omega
  subst e
  exact .inl ⟨w.stops H q,hd H p⟩
end
section
variable {prog:Program} {w:World} {A:Around} {E:Value->Shared->Prop} {s:Shared} {β:Type} {vs:List Value} {bs:List β} {enc:β->PyData} {R:Value->β->Prop}
/-- sorted(t,..),t a tuple of data that are alike -/
theorem z60 {t:Addr} {kw:List (Str × Value)} {b:Bool} {Q:Value->Shared->Prop} (hkw:∀ a,Builtin.«list.sort» ⟨[.ref a],kw⟩=Builtin.«list.sort» ⟨[.ref a],[(Str.ofString "reverse",.bool b)]⟩) (ha1:argsOk "sorted" ⟨[.ref t],kw⟩) (ha2:∀ x,argsOk "list.sort" ⟨[.ref x],kw⟩)
  (ht:PlainL s.heap t vs.toArray) (e:EachIs R vs bs) (er:EachIs (fun v b=>∃ as,Reads s.heap v (enc b) as) vs bs) (hal:AllAlike (bs.map enc)) (hk:Sortable (bs.map enc)) (hL:bs.length<=sizeLine)
  (hu:∀ b,b ∈ bs->A.units+2+(enc b).depth < cLine)
  (h:∀ (out:List Value) (h' h2:Heap) (n:Nat),(∀ b o,s.heap.get? b=some o->h'.get? b=some o)->(∀ b o,h'.get? b=some o->h2.get? b=some o)->h2.get? h'.objs.size=some (seqObj "list" out.toArray n)->out.length=bs.length->EachIs R out (bs.mergeSort (dataLe b enc))->Q (.ref h'.objs.size) { s with heap:=h2 }) :
  wpAny (model prog w) A (call (.builtin "sorted") [.ref t] kw) Q E s:=by
 have hlen:vs.length<=sizeLine:=by rw [e.length]; exact hL
 obtain ⟨o,n0,ho,hc,_,hd⟩:=id ht
 refine call_function_entry_kw kind_sorted plain_sorted entry_sorted ha1 ?_
 unfold Builtin.«sorted»
 refine wpAny_bind (m:=checkCount "sorted" 1 1 _) (wpAny_pure ?_)
 refine wpAny_bind (wpAny_collect_seq t (.inl rfl) ho hc hd (fun h' hk'=>?_) (by rw [List.size_toArray]; exact hlen))
 refine wpAny_bind (wpAny_newList ?_ hlen)
 show wpAny _ _ _ _ _ { s with heap:=h'.push (seqObj "list" vs.toArray 0) }
 have hat:(h'.push (seqObj "list" vs.toArray 0)).get? h'.objs.size=some (seqObj "list" vs.toArray 0):=Heap.get?_push_size _ rfl
 refine wpAny_bind (wpAny_holding (wpAny_call_entry_kw slot_list_sort ⟨_,hat,rfl⟩ entry_list_sort ?body (ha2 _)))
 case body =>
  rw [hkw]
  have old:∀ b o,h'.get? b=some o->(sortingHeap (h'.push (seqObj "list" vs.toArray 0)) h'.objs.size vs).get? b=some o:=fun b o q=>sortingHeap_old (Nat.ne_of_lt (Heap.lt_size q)) (Heap.get?_push_of_some _ q)
  have er':EachIs (fun v b=>∃ as,Reads (sortingHeap (h'.push (seqObj "list" vs.toArray 0)) h'.objs.size vs) v (enc b) as) vs bs:=er.mono fun _ _ ⟨as,r⟩=>⟨as,PyProof.Rows.Reads.keeps (fun b o q=>old b o (hk' b o q)) r⟩
  refine list_sort_rev_vals (s:={ s with heap:=h'.push (seqObj "list" vs.toArray 0) }) (κ:=dataKind (sortingHeap (h'.push (seqObj "list" vs.toArray 0)) h'.objs.size vs) (bs.map enc)) hat (SortsAt.data (s:={ s with heap:=sortingHeap (h'.push (seqObj "list" vs.toArray 0)) h'.objs.size vs }) (each_map (R:=fun v d=>∃ as,Reads (sortingHeap (h'.push (seqObj "list" vs.toArray 0)) h'.objs.size vs) v d as) enc er') hal hk (bound_map hu)) hlen ?_
  refine ⟨_,rfl,wpAny_pure ⟨_,rfl,?_⟩⟩
  obtain ⟨n2,hn2⟩:=sortedHeap_at (out:=(sortVals (dataKind (sortingHeap (h'.push (seqObj "list" vs.toArray 0)) h'.objs.size vs) (bs.map enc)) b vs vs).toArray) hat
  refine h _ h' _ n2 hk' (fun b o q=>?_) hn2 (by rw [sortVals_length b rfl]; exact e.length) (sortVals_data b e er' hal)
  rw [sortedHeap_old (Nat.ne_of_lt (Heap.lt_size q)) (by rw [size_push']; exact Nat.lt_succ_of_lt (Heap.lt_size q))]
  exact Heap.get?_push_of_some _ q
end
/-- sorted(t),sorted(t,reverse=b) -/
def z9b (K:PySem.W.Frag) {β:Type} (enc:β->PyData) (b:Bool) (vs:List V) (H:Hp) (Q:VK):Prop:=∃ (a:Addr) (xs:List V) (bs:List β),vs=[V.ref a]/\SqL K H a xs/\Bears K H enc xs bs/\AllAlike (bs.map enc)/\Sortable (bs.map enc)/\bs.length<=10000/\(∀ b ∈ bs,(enc b).depth<=100) /\
 ∀ (p:Addr) (ys:List V),H p=none->Bears K H enc ys (bs.mergeSort (dataLe b enc))->Q (.ref p) (upd H p (.lst ys))
section
variable {X:Cx}
theorem z9h {β:Type} {enc:β->PyData} {b:Bool} {kw:List (Str × Value)} (hu:X.A.units+110 < cLine) (hkw:∀ a,Builtin.«list.sort» ⟨[.ref a],kw⟩=Builtin.«list.sort» ⟨[.ref a],[(Str.ofString "reverse",.bool b)]⟩) (ha1:∀ t,argsOk "sorted" ⟨[.ref t],kw⟩) (ha2:∀ x,argsOk "list.sort" ⟨[.ref x],kw⟩)
  {pins:List (Addr × Obj)} {s:Shared} {σ:L2.St} {H:Hp} {vs:List V} {us:List Value} {Q:VK} (I:Inv X pins σ H s) (r:Vals vs us) (h:z9b X.K enc b vs H Q):wpAny (model X.prog X.w) X.A (call (.builtin "sorted") us kw) (EP X pins σ Q) X.xe s:=by
 obtain ⟨a,xs,bs,rfl,hs,hb,hal,hsr,hl,hd,q⟩:=h
 obtain ⟨its,rv,hli,_⟩:=I.list hs
 rw [Vals.ref1 r]
 obtain ⟨e1,e2⟩:=z35 I hb rv
 refine z60 (vs:=its) (bs:=bs) (enc:=enc) (R:=fun u b=>∃ v,RelV v u/\Dp X.K H v (enc b)) hkw (ha1 _) ha2 hli e1 e2 hal hsr (by rw [sizeLine_eq]; omega) (fun b m=>by have:=hd b m; omega) fun out h' h2 n k1 k2 hat ho h1=>?_
 obtain ⟨ys,g2,g3⟩:=z39 h1
 have I':Inv X pins σ H { s with heap:=h' }:=I.kept (t':=s.toks) k1
 have hlen:ys.length<=sizeLine:=by rw [g2.length,ho,sizeLine_eq]; omega
 exact ⟨.ref _,upd H h'.objs.size (.lst ys),I'.laid (t':=s.toks) (fun b o e=>k2 b o e) (Nat.le_refl _) ⟨hlen,out,n,g2,hat⟩,rfl,q _ ys (I'.hok.fresh (Nat.le_refl _)) g3⟩
theorem zac {β:Type} (enc:β->PyData) (hu:X.A.units+110 < cLine):CallR X (.builtin "sorted") (z9b X.K enc false):=by
 intro pins s σ H vs us Q I r h
 exact z9h (kw:=[]) hu plain_is_rev (fun _=>args_sorted1 _) (fun _=>args_list_sort _) I r h
end
namespace Lad
/-- all of some ladders together -/
def bths (ls:List Lad):Lad:=ofPs (jn (dsc (ls.flatMap ps)))
end Lad
theorem Got.imp {P:Program} {w:World} {K:PySem.W.Frag} {mg:Str->Option Value} {base:Heap} {x:Str} {ps:List Str} {k:Nat} {sp sp':Sp} (G:Got P w K mg base x ps k sp) (h:∀ vs H Q E,sp' vs H Q E->sp vs H Q E):Got P w K mg base x ps k sp':=by
 obtain ⟨f,fd,h1,h2⟩:=G.ex
 exact ⟨f,fd,h1.imp h,h2⟩
namespace Lad
section
variable {B C D:Int}
abbrev uno:Lad:=.cons .nil 1 .nil
theorem uno_ok:uno.Ok 2:=⟨trivial,by decide,by decide,trivial,by simp [ps]⟩
theorem S_uno (e x:Lad):S (.cons e 1 .nil) x=if e=x then 1 else 0:=by
 show sumAt ((e,1)::[]) x=_
 rw [sumAt_cons,sumAt_nil,Int.add_zero]
theorem S_suc (e x:Lad):S (bhd e uno) x=S e x+if Lad.nil=x then 1 else 0:=by
 rw [S_bhd uno_ok,S_uno]
 have:cov uno x=true:=by simp [cov,ps,lt_nil_r]
 rw [if_pos this]
theorem suc_lt {e:Lad} (he:e.Ok B) (hB:1<=B):e.lt (bhd e uno)=true:=by
 rw [lt_iff he (bhd_ok he uno_ok hB (by decide))]
 refine ⟨.nil,?_,fun y hy=>?_⟩
 ·rw [S_suc,if_pos rfl]; omega
 ·rw [S_suc,if_neg (lt_ne hy),Int.add_zero]
theorem suc_least {e y:Lad} (he:e.Ok B) (hy:y.Ok C) (hB:1<=B) (h:e.lt y=true):bhd e uno=y\/(bhd e uno).lt y=true:=by
 have ho:=bhd_ok he uno_ok hB (by decide)
 obtain ⟨x,hx,hup⟩:=(lt_iff he hy).mp h
 by_cases hn:x=.nil
 ·subst hn
  have hz:∀ z,Lad.nil ≠ z->S e z=S y z:=fun z hz=>hup z (nil_le z fun q=>hz q.symm)
  by_cases hq:S e .nil+1=S y .nil
  ·left
   refine ext ho hy fun z=>?_
   rw [S_suc]
   by_cases z0:Lad.nil=z
   ·subst z0; rw [if_pos rfl]; exact hq
   ·rw [if_neg z0,Int.add_zero]; exact hz z z0
  ·right
   rw [lt_iff ho hy]
   refine ⟨.nil,?_,fun z hz'=>?_⟩
   ·rw [S_suc,if_pos rfl]; omega
   ·rw [S_suc,if_neg (lt_ne hz'),Int.add_zero]; exact hz z (lt_ne hz')
 ·right
  rw [lt_iff ho hy]
  refine ⟨x,?_,fun z hz=>?_⟩
  ·rw [S_suc,if_neg (fun h=>hn h.symm),Int.add_zero]; exact hx
  ·have:Lad.nil ≠ z:=fun h=>by subst h; rw [lt_nil_r] at hz; cases hz
   rw [S_suc,if_neg this,Int.add_zero]; exact hup z hz
theorem sumAt_filter (e x:Lad):∀ bs:List (Lad × Int),sumAt (bs.filter fun p=>e.lt p.1) x=if e.lt x=true then sumAt bs x else 0
 | []=>by simp [sumAt_nil]
 | (a,m)::r=>by
  have ih:=sumAt_filter e x r
  rw [List.filter_cons]
  by_cases h:e.lt a=true
  ·rw [if_pos h,sumAt_cons,sumAt_cons,ih]
   by_cases hx:e.lt x=true
   ·rw [if_pos hx,if_pos hx]
   ·have:a ≠ x:=fun z=>hx (z ▸ h)
    rw [if_neg hx,if_neg hx,if_neg this]; rfl
  ·rw [if_neg h,ih,sumAt_cons]
   by_cases hx:e.lt x=true
   ·have:a ≠ x:=fun z=>h (z ▸ hx)
    rw [if_pos hx,if_pos hx,if_neg this,Int.zero_add]
   ·rw [if_neg hx,if_neg hx]
theorem filter_ok {l:Lad} (h:l.Ok B) (g:Lad × Int->Bool):(ofPs (l.ps.filter g)).Ok B:=by
 have:=ok_iff.mp h
 rw [ok_ps]
 exact ⟨fun p hp=>this.1 p (List.mem_filter.mp hp).1,this.2.filter _⟩
theorem filter_parts (l:Lad) (g:Lad × Int->Bool):(ofPs (l.ps.filter g)).parts<=l.parts:=by
 have h:=tot_filter g l.ps
 rw [parts_ofPs]
 have h2:tot l.ps=l.parts:=by rw [<- parts_ofPs,ofPs_ps]
 omega
theorem filter_deep {n:Nat} {l:Lad} (g:Lad × Int->Bool) (h:l.deep<=n):(ofPs (l.ps.filter g)).deep<=n :=
 deep_ofPs fun b hb=>Nat.lt_of_lt_of_le (mem_deep l b (List.mem_filter.mp hb).1) h
def abv (l:Lad):Lad->Lad
 | .nil=>bth l uno
 | .cons e _ _=>bth (ofPs (l.ps.filter fun p=>e.lt p.1)) (.cons (bhd e uno) 1 .nil)
theorem pow_ok {e:Lad} (h:e.Ok B) (hB:2<=B):(Lad.cons e 1 .nil).Ok B:=⟨h,by decide,by omega,trivial,by simp [ps]⟩
theorem abv_ok {l k:Lad} (hl:l.Ok B) (hk:k.Ok C) (hB:1<=B) (hC:1<=C):(abv l k).Ok (B+(C+2)):=by
 cases k with
 | nil=>exact (bth_ok hl uno_ok hB (by decide)).mono (by omega)
 | cons e m r=>exact bth_ok (filter_ok hl _) (pow_ok (bhd_ok hk.1 uno_ok hC (by decide)) (by omega)) hB (by omega)
theorem abv_parts (l k:Lad):(abv l k).parts<=l.parts+k.parts+2:=by
 cases k with
 | nil=>have:=bth_parts l uno; show (bth l uno).parts<=_; have h1:uno.parts=1:=rfl; omega
 | cons e m r =>
  have h1:=bth_parts (ofPs (l.ps.filter fun p=>e.lt p.1)) (.cons (bhd e uno) 1 .nil)
  have h2:=filter_parts l fun p=>e.lt p.1
  have h3:=bhd_parts e uno
  have h4:(Lad.cons (bhd e uno) 1 .nil).parts=1+(bhd e uno).parts+0:=rfl
  have h5:(Lad.cons e m r).parts=1+e.parts+r.parts:=rfl
  have h6:uno.parts=1:=rfl
  show (bth _ _).parts<=_
  omega
theorem abv_deep {n:Nat} {l k:Lad} (hl:l.deep<=n) (hk:k.deep<=n) (hn:2<=n):(abv l k).deep<=n:=by
 cases k with
 | nil=>exact bth_deep hl (by show 1<=n; omega)
 | cons e m r =>
  refine bth_deep (filter_deep _ hl) ?_
  have h1:1+e.deep<=n:=Nat.le_trans (Nat.le_max_left _ _) hk
  have h2:=bhd_deep (n:=n-1) (l:=e) (k:=uno) (by omega) (by show 1<=n-1; omega)
  show max (1+(bhd e uno).deep) 0<=n
  omega
theorem S_abv (l e:Lad) (m:Int) (r x:Lad):S (abv l (.cons e m r)) x=(if e.lt x=true then S l x else 0)+if bhd e uno=x then 1 else 0:=by
 show S (bth _ _) x=_
 rw [S_bth,S_uno]
 show sumAt (ofPs _).ps x+_=_
 rw [ps_ofPs,sumAt_filter]
theorem btm_ok {l k:Lad} {n:Int} (hl:l.Ok B) (hk:k.Ok C) (hB:1<=B) (hC:1<=C) (hn:0<=n):(bth l (tms k n)).Ok (B+(C*n+C)):=by
 have:0<=C*n:=Int.mul_nonneg (by omega) hn
 exact bth_ok hl (tms_ok hk hn) hB (by omega)
theorem S_btm (l k x:Lad) (n:Int):S (bth l (tms k n)) x=S l x+S k x*n:=by rw [S_bth,S_tms]
theorem abv_gt {l k:Lad} {n:Int} (hl:l.Ok B) (hk:k.Ok C) (hB:1<=B) (hC:1<=C) (hn:0<=n):(bth l (tms k n)).lt (abv l k)=true:=by
 rw [lt_iff (btm_ok hl hk hB hC hn) (abv_ok hl hk hB hC)]
 cases k with
 | nil =>
  have e0:∀ x,S Lad.nil x=0:=fun x=>rfl
  refine ⟨.nil,?_,fun y hy=>?_⟩
  ·rw [S_btm]
   show _ < S (bth l uno) .nil
   rw [S_bth,S_uno,if_pos rfl,e0,Int.zero_mul]; omega
  ·rw [S_btm]
   show _=S (bth l uno) y
   rw [S_bth,S_uno,if_neg (lt_ne hy),e0,Int.zero_mul]
 | cons e m r =>
  have hes:=suc_lt hk.1 hC
  refine ⟨bhd e uno,?_,fun y hy=>?_⟩
  ·rw [S_btm,S_abv,if_pos hes,if_pos rfl,S_above hk hes,Int.zero_mul]; omega
  ·have hy2:=lt_trans _ _ _ hes hy
   rw [S_btm,S_abv,if_pos hy2,if_neg (lt_ne hy),S_above hk hy2,Int.zero_mul]
/-- so many are enough to reach a lesser ladder -/
def eno:Lad->Lad->Int
 | .nil,_=>0
 | .cons e _ _,t=>1+S t e
theorem eno_nonneg {k t:Lad} (ht:t.Ok D):0<=eno k t:=by
 cases k with
 | nil=>exact Int.le_refl _
 | cons e m r=>have:=S_nonneg ht e; show 0<=1+S t e; omega
theorem abv_least {l k t:Lad} (hl:l.Ok B) (hk:k.Ok C) (ht:t.Ok D) (hB:1<=B) (hC:1<=C) (h:t.lt (abv l k)=true):(bth l (tms k (eno k t))).lt t=false:=by
 cases k with
 | nil =>
  rw [show eno .nil t=0 from rfl,show tms .nil 0=.nil from if_pos rfl,bth_nil hl]
  cases hlt:l.lt t with
  | false=>rfl
  | true =>
   exfalso
   have e:abv l .nil=bhd l uno:=ext (bth_ok hl uno_ok hB (by decide)) (bhd_ok hl uno_ok hB (by decide)) fun x=>by
    show S (bth l uno) x=_
    rw [S_bth,S_suc,S_uno]
   rw [e] at h
   rcases suc_least hl ht hB hlt with h1 | h1
   ·rw [h1,lt_irrefl] at h; cases h
   ·rw [lt_asymm h1] at h; cases h
 | cons e m r =>
  have he:e.Ok C:=hk.1
  have hN:=eno_nonneg (k:=.cons e m r) ht
  have hU:=btm_ok (n:=eno (.cons e m r) t) hl hk hB hC hN
  have hes:e.lt (bhd e uno)=true:=suc_lt he hC
  have Ua:∀ y,e.lt y=true->S (bth l (tms (.cons e m r) (eno (.cons e m r) t))) y=S l y:=fun y hy=>by
   rw [S_btm,S_above hk hy,Int.zero_mul,Int.add_zero]
  refine le_iff hU ht fun hlt=>?_
  obtain ⟨x,hx,hup⟩:=(lt_iff ht (abv_ok hl hk hB hC)).mp h
  have up2:∀ y,(x=y\/x.lt y=true)->(bhd e uno).lt y=true->x.lt y=true->S t y=S (bth l (tms (.cons e m r) (eno (.cons e m r) t))) y:=fun y _ hsy hxy=>by
   have h2:=lt_trans _ _ _ hes hsy
   rw [hup y hxy,S_abv,if_pos h2,if_neg (lt_ne hsy),Int.add_zero,Ua y h2]
  by_cases hxs:bhd e uno=x
  ·subst hxs
   rw [S_abv,if_pos hes,if_pos rfl] at hx
   by_cases hq:S t (bhd e uno) < S l (bhd e uno)
   ·exact LT'.asymm hlt ⟨bhd e uno,by rw [Ua _ hes]; exact hq,fun y hy=>up2 y (.inr hy) hy hy⟩
   ·refine LT'.asymm hlt ⟨e,?_,fun y hy=>?_⟩
    ·rw [S_btm,S_top hk]
     have h1:=S_nonneg hl e
     have h2:=S_nonneg ht e
     have h3:=hk.2.1
     show S t e < S l e+m*(1+S t e)
     have h4:1*(1+S t e)<=m*(1+S t e):=Int.mul_le_mul_of_nonneg_right h3 (by omega)
     omega
    ·by_cases hys:bhd e uno=y
     ·subst hys
      rw [Ua _ hes]; omega
     ·have okc:(∃ E,y.Ok E)->S t y=S (bth l (tms (.cons e m r) (eno (.cons e m r) t))) y:=fun ⟨E,hyo⟩=>by
       rcases suc_least he hyo hC hy with h1 | h1
       ·exact absurd h1 hys
       ·exact up2 y (.inr h1) h1 h1
      rcases S_cases ht y with ⟨z,_⟩ | ⟨mm,hm,_⟩
      ·rcases S_cases hl y with ⟨z2,_⟩ | ⟨mm,hm,_⟩
       ·rw [Ua y hy,z,z2]
       ·exact okc ⟨_,((ok_iff.mp hl).1 _ hm).1⟩
      ·exact okc ⟨_,((ok_iff.mp ht).1 _ hm).1⟩
  ·by_cases hsx:(bhd e uno).lt x=true
   ·have hex:=lt_trans _ _ _ hes hsx
    rw [S_abv,if_pos hex,if_neg hxs,Int.add_zero] at hx
    exact LT'.asymm hlt ⟨x,by rw [Ua x hex]; exact hx,fun y hy=>up2 y (.inr hy) (lt_trans _ _ _ hsx hy) hy⟩
   ·have hx0:=S_nonneg ht x
    rw [S_abv,if_neg hxs,Int.add_zero] at hx
    by_cases hex:e.lt x=true
    ·rw [if_pos hex] at hx
     rcases S_cases hl x with ⟨z,_⟩ | ⟨mm,hm,_⟩
     ·omega
     ·rcases suc_least he ((ok_iff.mp hl).1 _ hm).1 hC hex with h1 | h1
      ·exact hxs h1
      ·exact hsx h1
    ·rw [if_neg hex] at hx; omega
def spd:Lad->Lad->Lad
 | .cons e m r,.nil=>.cons e m r
 | .nil,.nil=>.nil
 | .nil,k=>k
 | .cons e _ _,k=>.cons (bhd e k) 1 .nil
end
end Lad
theorem z13 (x:PyData):dataLt x x=false:=lex_irrefl (O:=itemOrd) _
theorem z3g {x y z:PyData} (h:dataLt x y=true) (h2:dataLt y z=true):dataLt x z=true:=lex_trans (O:=itemOrd) _ _ _ h h2
theorem z8z {x y:PyData} (al:alike x y=true) (h:dataLt x y=false) (h2:dataLt y x=false):PyData.eqv x y=true:=by
 have e:keyToks x=keyToks y:=lex_total (O:=itemOrd) _ _ h h2
 cases hq:PyData.eqv x y with
 | true=>rfl
 | false =>
  have t:=(toks_eqv x y al).2 hq [.inl 0] [.inl 1]
  rw [e] at t
  have t2:PyProof.Rows.lexLt itemOrd (keyToks y++[.inl 0]) (keyToks y++[.inl 1])=PyProof.Rows.lexLt itemOrd [.inl 0] [.inl 1]:=lex_pre _ _ _
  have t3:PyProof.Rows.lexLt itemOrd (keyToks y) (keyToks y)=false:=lex_irrefl (O:=itemOrd) _
  rw [t2,t3,lex_one] at t
  revert t
  decide
theorem z3e {x y:PyData} (h:dataLt x y=true):dataLt y x=false:=by
 cases e:dataLt y x with
 | false=>rfl
 | true=>have:=z3g h e; rw [z13] at this; cases this
/-- things whose data are alike and like only where they are the same -/
class Orderly {γ:Type} [DecidableEq γ] (enc:γ->PyData):Prop where
 al:∀ a b,alike (enc a) (enc b)=true
 eq:∀ a b,PyData.eqv (enc a) (enc b)=decide (a=b)
section
variable {γ:Type} [DecidableEq γ] {enc:γ->PyData} [O:Orderly enc]
theorem z6p {a b:γ} (hne:a ≠ b) (h:dataLt (enc a) (enc b)=false):dataLt (enc b) (enc a)=true:=by
 cases e:dataLt (enc b) (enc a) with
 | true=>rfl
 | false =>
  have:=z8z (O.al a b) h e
  rw [O.eq] at this
  exact absurd (of_decide_eq_true this) hne
theorem zeg {a b:γ} (h:dataLt (enc a) (enc b)=true):a ≠ b:=fun z=>by subst z; rw [z13] at h; cases h
instance:Orderly (z0r enc) where
 al a b:=by simp [z0r,alike,alikeAll,O.al a.1 b.1]
 eq a b:=by
  simp only [z0r,PyData.eqv,PyData.eqvAll,O.eq,Bool.and_true,ib]
  by_cases h:a=b
  ·subst h; simp
  ·rw [decide_eq_false h]
   rw [Bool.and_eq_false_iff]
   by_cases h1:a.1=b.1
   ·exact .inr (decide_eq_false fun h2=>h (Prod.ext h1 h2))
   ·exact .inl (decide_eq_false h1)
theorem zcc (p q:γ × Int):dataLt (z0r enc p) (z0r enc q)=if p.1=q.1 then decide (p.2 < q.2) else dataLt (enc p.1) (enc q.1):=by
 unfold z0r
 rw [dataLt_pair (O.al p.1 q.1) (by simp [alike]),O.eq]
 by_cases h:p.1=q.1
 ·rw [if_pos (by simp [h]),if_pos h,dataLt_int]
  by_cases h2:p.2=q.2
  ·simp [PyData.eqv,h2]
  ·simp [PyData.eqv,h2]
 ·rw [if_neg (by simp [h]),if_neg h]
/-- in order -/
def srtE (enc:γ->PyData) (bs:List γ):List γ:=bs.mergeSort (dataLe false enc)
theorem z0t (bs:List γ):(srtE enc bs).Perm bs:=List.mergeSort_perm _ _
theorem zfc (bs:List γ):(srtE enc bs).Pairwise (fun a b=>dataLt (enc b) (enc a)=false):=by
 have h:=List.pairwise_mergeSort (le:=dataLe false enc) (fun a b c h1 h2=>?_) (fun a b=>?_) bs
 ·refine h.imp fun {a b} hab=>?_
  rw [dataLe_eq] at hab
  simpa using hab
 ·rw [dataLe_eq] at h1 h2 ⊢
  simp only [cond_false,Bool.not_eq_true'] at h1 h2 ⊢
  by_cases hab:a=b
  ·subst hab; exact h2
  ·by_cases hbc:b=c
   ·subst hbc; exact h1
   ·exact z3e (z3g (z6p (fun z=>hab z.symm) h1) (z6p (fun z=>hbc z.symm) h2))
 ·rw [dataLe_eq]
  simp only [cond_false]
  cases e:dataLt (enc b) (enc a) with
  | false=>rfl
  | true=>rw [z3e e]; rfl
/-- how many of a thing -/
def sumE (ps:List (γ × Int)) (x:γ):Int:=match ps with
 | []=>0
 | p::r=>(if p.1=x then p.2 else 0)+sumE r x
theorem z0f (x:γ):∀ (as bs:List (γ × Int)),sumE (as++bs) x=sumE as x+sumE bs x
 | [],bs=>by simp [sumE]
 | p::r,bs=>by show _+sumE (r++bs) x=_; rw [z0f x r bs,sumE]; omega
theorem zb1 {as bs:List (γ × Int)} (h:as.Perm bs) (x:γ):sumE as x=sumE bs x:=by
 induction h with
 | nil=>rfl
 | cons y _ ih=>simp only [sumE]; omega
 | swap y z l=>simp only [sumE]; omega
 | trans _ _ h1 h2=>omega
theorem zau (acc:List (γ × Int)) (p:γ × Int) (x:γ):sumE (z02 acc p) x=sumE acc x+(if p.1=x then p.2 else 0):=by
 rcases List.eq_nil_or_concat acc with h | ⟨a,z,h⟩
 ·subst h; rw [z0p]; simp [sumE]
 ·subst h
  rw [List.concat_eq_append,z06]
  by_cases hz:z.1=p.1
  ·rw [if_pos hz,z0f,z0f]
   simp only [sumE,hz]
   by_cases hx:p.1=x
   ·simp only [if_pos hx]; omega
   ·simp only [if_neg hx]; omega
  ·rw [if_neg hz,z0f]; simp only [sumE]; omega
theorem zfy (bs:List (γ × Int)) (x:γ):sumE (jn bs) x=sumE bs x:=by
 have key:∀ (bs acc:List (γ × Int)),sumE (bs.foldl z02 acc) x=sumE acc x+sumE bs x:=by
  intro bs
  induction bs with
  | nil=>intro acc; simp [sumE]
  | cons p r ih =>
   intro acc
   show sumE (r.foldl z02 (z02 acc p)) x=_
   rw [ih,zau,sumE]; omega
 have:=key bs []
 simpa [jn,sumE] using this
/-- keys that do not fall rise strictly when like ones are put together -/
theorem zfk {bs:List (γ × Int)} (h:bs.Pairwise (fun a b=>dataLt (enc b.1) (enc a.1)=false)):(jn bs).Pairwise (fun p q=>dataLt (enc p.1) (enc q.1)=true):=by
 have key:∀ (bs acc:List (γ × Int)),acc.Pairwise (fun p q=>dataLt (enc p.1) (enc q.1)=true)->(∀ a ∈ acc,∀ b ∈ bs,dataLt (enc b.1) (enc a.1)=false)->bs.Pairwise (fun a b=>dataLt (enc b.1) (enc a.1)=false)->(bs.foldl z02 acc).Pairwise (fun p q=>dataLt (enc p.1) (enc q.1)=true):=by
  intro bs
  induction bs with
  | nil=>intro acc h _ _; exact h
  | cons p r ih =>
   intro acc h1 h2 h3
   obtain ⟨h31,h32⟩:=List.pairwise_cons.mp h3
   refine ih (z02 acc p) ?_ ?_ h32
   ·rcases List.eq_nil_or_concat acc with h | ⟨a,z,h⟩
    ·subst h; rw [z0p]; exact List.pairwise_singleton _ _
    ·subst h
     rw [List.concat_eq_append] at h1 h2 ⊢
     rw [z06]
     obtain ⟨a1,_,a3⟩:=List.pairwise_append.mp h1
     by_cases hz:z.1=p.1
     ·rw [if_pos hz,List.pairwise_append]
      refine ⟨a1,List.pairwise_singleton _ _,fun x hx y hy=>?_⟩
      have hy':y=(p.1,z.2+p.2):=by simpa using hy
      subst hy'
      show dataLt (enc x.1) (enc p.1)=true
      rw [<- hz]; exact a3 x hx z (by simp)
     ·rw [if_neg hz,List.pairwise_append]
      refine ⟨h1,List.pairwise_singleton _ _,fun x hx y hy=>?_⟩
      have hy':y=p:=by simpa using hy
      subst hy'
      have hzp:dataLt (enc z.1) (enc y.1)=true:=z6p (fun q=>hz q.symm) (h2 z (by simp) y (mcs ..))
      rcases List.mem_append.mp hx with hx | hx
      ·exact z3g (a3 x hx z (by simp)) hzp
      ·have hx':x=z:=by simpa using hx
       subst hx'; exact hzp
   ·intro a ha b hb
    have hpb:=h31 b hb
    rcases List.eq_nil_or_concat acc with h | ⟨c,z,h⟩
    ·subst h
     rw [z0p] at ha
     have:a=p:=by simpa using ha
     subst this; exact hpb
    ·subst h
     rw [List.concat_eq_append] at ha h2
     rw [z06] at ha
     by_cases hz:z.1=p.1
     ·rw [if_pos hz] at ha
      rcases List.mem_append.mp ha with ha | ha
      ·exact h2 a (mal _ ha) b (mcm _ hb)
      ·have:a=(p.1,z.2+p.2):=by simpa using ha
       subst this; exact hpb
     ·rw [if_neg hz] at ha
      rcases List.mem_append.mp ha with ha | ha
      ·exact h2 a ha b (mcm _ hb)
      ·have:a=p:=by simpa using ha
       subst this; exact hpb
 exact key bs [] List.Pairwise.nil (by simp) h
theorem zd2 (bs:List (γ × Int)):(srtE (z0r enc) bs).Pairwise (fun a b=>dataLt (enc b.1) (enc a.1)=false):=by
 refine (zfc (enc:=z0r enc) bs).imp fun {a b} hab=>?_
 rw [zcc] at hab
 by_cases h:b.1=a.1
 ·rw [h]; exact z13 _
 ·rw [if_neg h] at hab; exact hab
/-- put in order,like ones together -/
def tdy (enc:γ->PyData) (bs:List (γ × Int)):List (γ × Int):=jn (srtE (z0r enc) bs)
theorem z8g (bs:List (γ × Int)):(tdy enc bs).Pairwise (fun p q=>dataLt (enc p.1) (enc q.1)=true):=zfk (zd2 bs)
theorem z5s (bs:List (γ × Int)) (x:γ):sumE (tdy enc bs) x=sumE bs x:=by
 unfold tdy
 rw [zfy,zb1 (z0t bs)]
theorem z17 (bs:List (γ × Int)):∀ p ∈ tdy enc bs,∃ q ∈ bs,q.1=p.1:=fun p hp=>by
 obtain ⟨q,hq,e⟩:=z1v _ p hp
 exact ⟨q,(z0t bs).mem_iff.mp hq,e⟩
/-- how many in all -/
def allE:List (γ × Int)->Int
 | []=>0
 | p::r=>p.2+allE r
theorem z22:∀ as bs:List (γ × Int),allE (as++bs)=allE as+allE bs
 | [],bs=>by simp [allE]
 | p::r,bs=>by show _+allE (r++bs)=_; rw [z22 r bs,allE]; omega
theorem zb6 {as bs:List (γ × Int)} (h:as.Perm bs):allE as=allE bs:=by
 induction h with
 | nil=>rfl
 | cons y _ ih=>simp only [allE]; omega
 | swap y z l=>simp only [allE]; omega
 | trans _ _ h1 h2=>omega
theorem zgm (bs:List (γ × Int)):allE (jn bs)=allE bs:=by
 have key:∀ (bs acc:List (γ × Int)),allE (bs.foldl z02 acc)=allE acc+allE bs:=by
  intro bs
  induction bs with
  | nil=>intro acc; simp [allE]
  | cons p r ih =>
   intro acc
   show allE (r.foldl z02 (z02 acc p))=_
   rw [ih]
   have e:allE (z02 acc p)=allE acc+p.2:=by
    rcases List.eq_nil_or_concat acc with h | ⟨a,z,h⟩
    ·subst h; rw [z0p]; simp [allE]
    ·subst h
     rw [List.concat_eq_append,z06]
     split
     ·rw [z22,z22]; simp only [allE]; omega
     ·rw [z22]; simp only [allE]; omega
   rw [e,allE]; omega
 have:=key bs []
 simpa [jn,allE] using this
theorem zgq {bs:List (γ × Int)} (h:∀ p ∈ bs,1<=p.2):∀ p ∈ jn bs,1<=p.2:=by
 have key:∀ (bs acc:List (γ × Int)),(∀ p ∈ acc,1<=p.2)->(∀ p ∈ bs,1<=p.2)->∀ p ∈ bs.foldl z02 acc,1<=p.2:=by
  intro bs
  induction bs with
  | nil=>intro acc h _; exact h
  | cons p r ih =>
   intro acc h1 h2
   refine ih (z02 acc p) (fun q hq=>?_) fun q hq=>h2 q (mcm _ hq)
   have hp:=h2 p (mcs ..)
   rcases List.eq_nil_or_concat acc with h | ⟨a,z,h⟩
   ·subst h
    rw [z0p] at hq
    have:q=p:=by simpa using hq
    subst this; exact hp
   ·subst h
    rw [List.concat_eq_append] at h1 hq
    rw [z06] at hq
    have hz:=h1 z (by simp)
    by_cases e:z.1=p.1
    ·rw [if_pos e] at hq
     rcases List.mem_append.mp hq with hq | hq
     ·exact h1 q (mal _ hq)
     ·have:q=(p.1,z.2+p.2):=by simpa using hq
      subst this; show 1<=z.2+p.2; omega
    ·rw [if_neg e] at hq
     rcases List.mem_append.mp hq with hq | hq
     ·exact h1 q hq
     ·have:q=p:=by simpa using hq
      subst this; exact hp
 exact key bs [] (by simp) h
theorem zgr {bs:List (γ × Int)} (h:∀ p ∈ bs,1<=p.2):∀ p ∈ bs,p.2<=allE bs:=by
 induction bs with
 | nil=>intro p hp; cases hp
 | cons a r ih =>
  intro p hp
  have hr:0<=allE r:=by
   clear ih hp
   have:∀ p ∈ r,1<=p.2:=fun p hp=>h p (mcm _ hp)
   clear h
   induction r with
   | nil=>exact Int.le_refl _
   | cons b r ih2 =>
    have h1:=this b (mcs ..)
    have h2:=ih2 fun p hp=>this p (mcm _ hp)
    show 0<=b.2+allE r; omega
  have ha:=h a (mcs ..)
  rcases List.mem_cons.mp hp with hp | hp
  ·subst hp; show p.2<=p.2+allE r; omega
  ·have:=ih (fun p hp=>h p (mcm _ hp)) p hp
   show p.2<=a.2+allE r; omega
theorem z6y {bs:List (γ × Int)} {C:Int} (h:∀ p ∈ bs,p.2<=C):allE bs<=bs.length*C:=by
 induction bs with
 | nil=>simp [allE]
 | cons a r ih =>
  have h1:=h a (mcs ..)
  have h2:=ih fun p hp=>h p (mcm _ hp)
  show a.2+allE r<=((r.length+1:Nat):Int)*C
  rw [Int.natCast_add,Int.add_mul]
  simp only [Int.natCast_one,Int.one_mul]
  omega
theorem z9r {bs:List (γ × Int)} (h:∀ p ∈ bs,1<=p.2):∀ p ∈ tdy enc bs,1<=p.2/\p.2<=allE bs:=fun p hp=>by
 have h0:∀ p ∈ srtE (z0r enc) bs,1<=p.2:=fun p hp=>h p ((z0t bs).mem_iff.mp hp)
 have h1:=zgq h0
 refine ⟨h1 p hp,?_⟩
 have h2:=zgr h1 p hp
 rw [zgm,zb6 (z0t bs)] at h2
 exact h2
end
inductive Gr where
 | nil
 | cons (k:Str) (g:Gr) (m:Int) (r:Gr)
 deriving DecidableEq
abbrev Tr:=Str × Gr
/-- a name: one to eight small letters -/
def z01 (k:Str):Prop:=1<=k.cps.toList.length/\k.cps.toList.length<=8/\∀ c ∈ k.cps.toList,97<=c/\c<=122
namespace Gr
def encs:Gr->List PyData
 | .nil=>[]
 | .cons k g m r=>.tuple [.tuple [.str k,.tuple g.encs],.int m]::r.encs
def enc (g:Gr):PyData:=.tuple g.encs
def tEnc (t:Tr):PyData:=.tuple [.str t.1,t.2.enc]
abbrev pEnc:Tr × Int->PyData:=z0r tEnc
def ps:Gr->List (Tr × Int)
 | .nil=>[]
 | .cons k g m r=>((k,g),m)::r.ps
def ofPs:List (Tr × Int)->Gr
 | []=>.nil
 | p::r=>.cons p.1.1 p.1.2 p.2 (ofPs r)
theorem ofPs_ps:∀ g:Gr,ofPs g.ps=g
 | .nil=>rfl
 | .cons k g m r=>by show Gr.cons k g m (ofPs r.ps)=_; rw [ofPs_ps r]
theorem ps_ofPs:∀ bs:List (Tr × Int),(ofPs bs).ps=bs
 | []=>rfl
 | p::r=>by show ((p.1.1,p.1.2),p.2)::(ofPs r).ps=_; rw [ps_ofPs r]
theorem encs_ps:∀ g:Gr,g.encs=g.ps.map pEnc
 | .nil=>rfl
 | .cons k g m r=>by show _::r.encs=_::r.ps.map pEnc; rw [encs_ps r]; rfl
def parts:Gr->Nat
 | .nil=>0
 | .cons _ g _ r=>1+g.parts+r.parts
def deep:Gr->Nat
 | .nil=>0
 | .cons _ g _ r=>max (1+g.deep) r.deep
def size:Gr->Int
 | .nil=>0
 | .cons _ g m r=>m*(1+g.size)+r.size
def tot:List (Tr × Int)->Nat
 | []=>0
 | p::r=>1+p.1.2.parts+tot r
theorem parts_ofPs:∀ bs:List (Tr × Int),(ofPs bs).parts=tot bs
 | []=>rfl
 | p::r=>by show 1+p.1.2.parts+(ofPs r).parts=1+p.1.2.parts+tot r; rw [parts_ofPs r]
theorem tot_ps (g:Gr):tot g.ps=g.parts:=by rw [<- parts_ofPs,ofPs_ps]
theorem tot_append:∀ bs cs:List (Tr × Int),tot (bs++cs)=tot bs+tot cs
 | [],cs=>by simp [tot]
 | p::r,cs=>by show 1+p.1.2.parts+tot (r++cs)=_; rw [tot_append r cs,tot]; omega
theorem tot_perm {bs cs:List (Tr × Int)} (h:bs.Perm cs):tot bs=tot cs:=by
 induction h with
 | nil=>rfl
 | cons x _ ih=>simp only [tot]; omega
 | swap x y l=>simp only [tot]; omega
 | trans _ _ h1 h2=>omega
theorem len_tot:∀ bs:List (Tr × Int),bs.length<=tot bs
 | []=>Nat.le_refl _
 | p::r=>by have:=len_tot r; show r.length+1<=1+p.1.2.parts+tot r; omega
theorem tot_jn (bs:List (Tr × Int)):tot (jn bs)<=tot bs:=by
 have key:∀ (bs acc:List (Tr × Int)),tot (bs.foldl z02 acc)<=tot acc+tot bs:=by
  intro bs
  induction bs with
  | nil=>intro acc; simp [tot]
  | cons x r ih =>
   intro acc
   have h1:=ih (z02 acc x)
   have h2:tot (z02 acc x)<=tot acc+(1+x.1.2.parts):=by
    rcases List.eq_nil_or_concat acc with h | ⟨a,z,h⟩
    ·subst h; simp [z0p,tot]
    ·subst h
     rw [List.concat_eq_append,z06]
     by_cases hz:z.1=x.1
     ·rw [if_pos hz,tot_append,tot_append]; simp only [tot]; rw [hz]; omega
     ·rw [if_neg hz,tot_append,tot_append]; simp only [tot]; omega
   show tot (r.foldl z02 (z02 acc x))<=tot acc+(1+x.1.2.parts+tot r)
   omega
 have:=key bs []
 simpa [jn,tot] using this
theorem mem_deep:∀ (g:Gr) (p:Tr × Int),p ∈ g.ps->p.1.2.deep < g.deep
 | .nil,p,h=>by cases h
 | .cons k g m r,p,h=>by
  rcases List.mem_cons.mp h with h | h
  ·subst h; show g.deep < max (1+g.deep) r.deep; omega
  ·have:=mem_deep r p h; show _ < max (1+g.deep) r.deep; omega
theorem mem_parts:∀ (g:Gr) (p:Tr × Int),p ∈ g.ps->p.1.2.parts < g.parts
 | .nil,p,h=>by cases h
 | .cons k g m r,p,h=>by
  rcases List.mem_cons.mp h with h | h
  ·subst h; show g.parts < 1+g.parts+r.parts; omega
  ·have:=mem_parts r p h; show _ < 1+g.parts+r.parts; omega
theorem deep_le {n:Nat}:∀ {g:Gr},(∀ p ∈ g.ps,p.1.2.deep < n)->g.deep<=n
 | .nil,_=>Nat.zero_le _
 | .cons k g m r,h=>by
  have h1:=h ((k,g),m) (mcs ..)
  have h2:=deep_le (g:=r) fun p hp=>h p (mcm _ hp)
  show max (1+g.deep) r.deep<=n
  have:g.deep < n:=h1
  omega
theorem len_parts (g:Gr):g.ps.length<=g.parts:=by have:=len_tot g.ps; rw [tot_ps] at this; exact this
theorem alikes:∀ g h:Gr,alikeAll g.encs h.encs=true
 | .nil,_=>by simp [encs,alikeAll]
 | .cons _ _ _ _,.nil=>by simp [encs,alikeAll]
 | .cons k g m r,.cons k' g' m' r'=>by
  have h1:=alikes g g'
  have h2:=alikes r r'
  simp [encs,alikeAll,alike,h1,h2]
theorem alike_enc (g h:Gr):alike g.enc h.enc=true:=by
 show alike (.tuple g.encs) (.tuple h.encs)=true
 rw [alike]; exact alikes g h
theorem sb (a b:Str):(a == b)=decide (a=b):=by by_cases h:a=b <;> simp [h]
theorem eqvs:∀ g h:Gr,PyData.eqvAll g.encs h.encs=decide (g=h)
 | .nil,.nil=>by simp [encs,PyData.eqvAll]
 | .nil,.cons _ _ _ _=>by simp [encs,PyData.eqvAll]
 | .cons _ _ _ _,.nil=>by simp [encs,PyData.eqvAll]
 | .cons k g m r,.cons k' g' m' r'=>by
  have h1:=eqvs g g'
  have h2:=eqvs r r'
  simp [encs,PyData.eqvAll,PyData.eqv,h1,h2,Bool.and_assoc,ib,sb]
theorem eqv_enc (g h:Gr):PyData.eqv g.enc h.enc=decide (g=h):=by
 rw [enc,enc,PyData.eqv]; exact eqvs g h
instance:Orderly tEnc where
 al a b:=by simp [tEnc,alike,alikeAll,alike_enc]
 eq a b:=by
  simp only [tEnc,PyData.eqv,PyData.eqvAll,eqv_enc,Bool.and_true,sb]
  by_cases h:a=b
  ·subst h; simp
  ·rw [decide_eq_false h,Bool.and_eq_false_iff]
   by_cases h1:a.1=b.1
   ·exact .inr (decide_eq_false fun h2=>h (Prod.ext h1 h2))
   ·exact .inl (decide_eq_false h1)
theorem noLists_encs:∀ g:Gr,z05 g.encs=true
 | .nil=>by simp [encs,z05]
 | .cons k g m r=>by simp [encs,z05,z03,noLists_encs g,noLists_encs r]
theorem noList_enc (g:Gr):z03 g.enc=true:=by simp [enc,z03,noLists_encs g]
theorem noList_tEnc (t:Tr):z03 (tEnc t)=true:=by simp [tEnc,z03,z05,noList_enc]
theorem noList_pEnc (p:Tr × Int):z03 (pEnc p)=true:=by simp [pEnc,z0r,z03,z05,noList_tEnc]
theorem encs_depth:∀ g:Gr,PyData.depthAll g.encs<=3*g.deep
 | .nil=>by simp [encs,PyData.depthAll,deep]
 | .cons k g m r=>by
  have h1:=encs_depth g
  have h2:=encs_depth r
  simp only [encs,PyData.depthAll,PyData.depth,deep]
  omega
theorem enc_depth (g:Gr):g.enc.depth<=3*g.deep+1:=by
 have:=encs_depth g
 simp only [enc,PyData.depth]
 omega
theorem tEnc_depth (t:Tr):(tEnc t).depth<=3*t.2.deep+2:=by
 have:=enc_depth t.2
 simp only [tEnc,PyData.depth,PyData.depthAll]; omega
theorem pEnc_depth (p:Tr × Int):(pEnc p).depth<=3*p.1.2.deep+3:=by
 have:=tEnc_depth p.1
 simp only [pEnc,z0r,PyData.depth,PyData.depthAll]; omega
/-- all names are names,numbers from 1 to below C,trees in order -/
def Ok (C:Int):Gr->Prop
 | .nil=>True
 | .cons k g m r=>z01 k/\g.Ok C/\1<=m/\m < C/\r.Ok C/\∀ p ∈ r.ps,dataLt (tEnc (k,g)) (tEnc p.1)=true
theorem Ok.mono {B C:Int} (h:B<=C):∀ {g:Gr},g.Ok B->g.Ok C
 | .nil,_=>trivial
 | .cons k g m r,⟨h0,h1,h2,h3,h4,h5⟩=>⟨h0,Ok.mono h h1,h2,by omega,Ok.mono h h4,h5⟩
theorem ok_ps {C:Int}:∀ {bs:List (Tr × Int)},(ofPs bs).Ok C ↔ (∀ p ∈ bs,z01 p.1.1/\p.1.2.Ok C/\1<=p.2/\p.2 < C)/\bs.Pairwise (fun p q=>dataLt (tEnc p.1) (tEnc q.1)=true)
 | []=>by simp [ofPs,Ok]
 | x::r=>by
  have ih:=ok_ps (C:=C) (bs:=r)
  show (z01 x.1.1/\x.1.2.Ok C/\1<=x.2/\x.2 < C/\(ofPs r).Ok C/\∀ p ∈ (ofPs r).ps,dataLt (tEnc x.1) (tEnc p.1)=true) ↔ _
  rw [ps_ofPs,List.pairwise_cons,ih]
  constructor
  ·rintro ⟨h0,h1,h2,h3,⟨h4,h5⟩,h6⟩
   refine ⟨fun p hp=>?_,h6,h5⟩
   rcases List.mem_cons.mp hp with hp | hp
   ·subst hp; exact ⟨h0,h1,h2,h3⟩
   ·exact h4 p hp
  ·rintro ⟨h1,h2,h3⟩
   have h4:=h1 x (mcs ..)
   exact ⟨h4.1,h4.2.1,h4.2.2.1,h4.2.2.2,⟨fun p hp=>h1 p (mcm _ hp),h3⟩,h2⟩
theorem ok_iff {C:Int} {g:Gr}:g.Ok C ↔ (∀ p ∈ g.ps,z01 p.1.1/\p.1.2.Ok C/\1<=p.2/\p.2 < C)/\g.ps.Pairwise (fun p q=>dataLt (tEnc p.1) (tEnc q.1)=true):=by
 have:=ok_ps (C:=C) (bs:=g.ps)
 rw [ofPs_ps] at this
 exact this
theorem strOk_name {k:Str} (h:z01 k):PySem.PyData.strOk k=true:=by
 show k.cps.all (· < 0x110000)=true
 rw [Array.all_eq_true']
 intro c hc
 have:=h.2.2 c (by simpa using hc)
 simp; omega
theorem lays {C:Int}:∀ {g:Gr},g.Ok C->PyData.canLayAll0 g.encs=true
 | .nil,_=>by simp [encs,PyData.canLayAll0]
 | .cons k g m r,⟨h0,h1,_,_,h4,_⟩=>by
  have e1:=lays h1
  have e2:=lays h4
  simp [encs,PyData.canLayAll0,PyData.canLay0,e1,e2,strOk_name h0]
theorem shaped_tEnc {C:Int} {t:Tr} (h0:z01 t.1) (h:t.2.Ok C) (hd:t.2.deep<=20):SeqAt.shaped (tEnc t)=true:=by
 have:=tEnc_depth t
 unfold SeqAt.shaped
 rw [show (tEnc t).canLay0=true by simp [tEnc,PyData.canLay0,PyData.canLayAll0,strOk_name h0,enc,lays h]]
 simp; omega
theorem pEnc_all (bs:List (Tr × Int)):AllAlike (bs.map pEnc):=AllAlike.of fun a b=>Orderly.al (enc:=pEnc) a b
theorem pEnc_sortable (bs:List (Tr × Int)):Sortable (bs.map pEnc):=Sortable.tuples fun b=>⟨_,_,rfl⟩
/-- the grove of some pairs -/
def tidy (bs:List (Tr × Int)):Gr:=ofPs (tdy tEnc bs)
theorem tidy_parts (bs:List (Tr × Int)):(tidy bs).parts<=tot bs:=by
 unfold tidy
 rw [parts_ofPs]
 have h1:=tot_jn (srtE (z0r tEnc) bs)
 rw [tot_perm (z0t bs)] at h1
 exact h1
theorem tidy_deep {n:Nat} {bs:List (Tr × Int)} (h:∀ p ∈ bs,p.1.2.deep < n):(tidy bs).deep<=n:=by
 refine deep_le fun p hp=>?_
 unfold tidy at hp
 rw [ps_ofPs] at hp
 obtain ⟨q,hq,e⟩:=z17 bs p hp
 rw [<- e]; exact h q hq
theorem tidy_ok {C D:Int} {bs:List (Tr × Int)} (h:∀ p ∈ bs,z01 p.1.1/\p.1.2.Ok C/\1<=p.2) (hD:allE bs < D) (hCD:C<=D):(tidy bs).Ok D:=by
 unfold tidy
 rw [ok_ps]
 refine ⟨fun p hp=>?_,z8g bs⟩
 obtain ⟨q,hq,e⟩:=z17 bs p hp
 have hq2:=h q hq
 obtain ⟨h1,h2⟩:=z9r (enc:=tEnc) (fun p hp=>(h p hp).2.2) p hp
 rw [<- e]
 exact ⟨hq2.1,hq2.2.1.mono hCD,h1,by omega⟩
end Gr
/-- at v stands the grove g -/
def GA (K:PySem.W.Frag) (H:Hp) (v:V) (g:Gr):Prop:=Dp K H v g.enc
section
variable {K:PySem.W.Frag} {ps:List Addr} {H H':Hp} {v:V} {g:Gr}
theorem GA.sb (h:GA K H v g) (e:SB ps H H'):GA K H' v g:=z07 e _ _ g.noList_enc h
theorem z0g (h:GA K H v g):∃ a xs,v=.ref a/\SqT K H a xs/\Bears K H Gr.pEnc xs g.ps:=by
 have h':Dp K H v (.tuple g.encs):=h
 cases h' with
 | tup hs ha =>
  rw [Gr.encs_ps] at ha
  exact ⟨_,_,rfl,hs,Bears.of ha⟩
theorem z2i {a:Addr} {xs:List V} {bs:List (Tr × Int)} (h:SqT K H a xs) (hb:Bears K H Gr.pEnc xs bs):GA K H (.ref a) (Gr.ofPs bs):=by
 refine Dp.tup h ?_
 rw [Gr.encs_ps,Gr.ps_ofPs]
 exact hb.dp
theorem zi2 {p:Addr} (h:SqT K H p []):GA K H (.ref p) .nil:=Dp.tup h .nil
theorem z8b {t:Tr} (h:Dp K H v (Gr.tEnc t)):∃ a u,v=.ref a/\SqT K H a [.str t.1,u]/\GA K H u t.2:=by
 cases h with
 | tup hs ha =>
  cases ha with
  | cons h1 h2 =>
   cases h2 with
   | cons h3 h4 =>
    cases h4
    cases h1
    exact ⟨_,_,rfl,hs,h3⟩
theorem z0h {p:Tr × Int} (h:Dp K H v (Gr.pEnc p)):∃ a b u,v=.ref a/\SqT K H a [.ref b,.int p.2]/\SqT K H b [.str p.1.1,u]/\GA K H u p.1.2/\Dp K H (.ref b) (Gr.tEnc p.1):=by
 cases h with
 | tup hs ha =>
  cases ha with
  | cons h1 h2 =>
   cases h2 with
   | cons h3 h4 =>
    cases h4
    cases h3
    obtain ⟨b,u,rfl,hb,hg⟩:=z8b h1
    exact ⟨_,b,u,rfl,hs,hb,hg,h1⟩
end
def PuG (H:Hp) (p:Addr):Prop:=∃ x y:Int,H p=some (.lst [.int x,.int y])/\0<=x/\1<=y/\y<=18446744073709551557
theorem PuG.sb {H H':Hp} {p:Addr} (h:PuG H p) (e:SB [] H H'):PuG H' p:=by
 obtain ⟨x,y,h1,h2⟩:=h
 exact ⟨x,y,e.keep _ _ h1 nmn,h2⟩
theorem PuG.keep {H H':Hp} {p:Addr} {ps:List Addr} (h:PuG H p) (e:SB ps H H') (n:p ∉ ps):PuG H' p:=by
 obtain ⟨x,y,h1,h2⟩:=h
 exact ⟨x,y,e.keep _ _ h1 n,h2⟩
theorem PuG.new {H:Hp} {p q:Addr} (h:PuG H p) (n:H q=none) {o:HO}:PuG (upd H q o) p:=by
 obtain ⟨x,y,h1,h2⟩:=h
 exact ⟨x,y,by rw [upd_ne (ne_of_none h1 n)]; exact h1,h2⟩
theorem PuG.ne {H:Hp} {p q:Addr} (h:PuG H p) (n:H q=none):p ≠ q:=by
 obtain ⟨x,y,h1,h2⟩:=h
 exact ne_of_none h1 n
def z21 (K:PySem.W.Frag):Sp:=fun vs H Q _=>∃ (a:Addr) (ns:List Int) (k:Nat),vs=[.ref a,.int (k:Int)]/\SqL K H a (ns.map V.int)/\ns.length<=63/\k<=1000/\∀ p H',SB [] H H'->H p=none->PuG H' p->Q (.ref p) H'
def z0v:Sp:=fun vs H Q _=>∃ (p:Addr) (m:Int),vs=[.ref p,.int m]/\PuG H p/\1<=m/\m < 2 ^ 250/\∀ r H',0<=r->r < m->SB [p] H H'->PuG H' p->Q (.int r) H'
/-- sorted pairs of trees,like ones put together: of a list or a tuple -/
def z5v (K:PySem.W.Frag):Sp:=fun vs H Q _=>∃ (a:Addr) (xs:List V) (bs:List (Tr × Int)),vs=[.ref a]/\(SqL K H a xs\/SqT K H a xs)/\Bears K H Gr.pEnc xs bs/\bs.length<=1000/\(∃ C,∀ p ∈ bs,z01 p.1.1/\p.1.2.Ok C/\p.1.2.deep<=18) /\
 ∀ (v:V) (H':Hp),SB [] H H'->GA K H' v (Gr.tidy bs)->Q v H'
def Ltr (z:Str) (n:Nat):Prop:=z.cps.toList.length=n/\∀ c ∈ z.cps.toList,97<=c/\c<=122
theorem Ltr.name {z:Str} {n:Nat} (h:Ltr z n) (h1:1<=n) (h8:n<=8):z01 z:=⟨by have:=h.1; omega,by have:=h.1; omega,h.2⟩
theorem Ltr.len {z:Str} {n:Nat} (h:Ltr z n):z.length=n:=by have:=h.1; simpa [Str.length] using this
theorem Ltr.one {c:Nat} (h:97<=c/\c<=122):Ltr ⟨#[c]⟩ 1:=⟨rfl,fun x hx=>by simp at hx; subst hx; exact h⟩
theorem Ltr.append {a b:Str} {n m:Nat} (ha:Ltr a n) (hb:Ltr b m):Ltr (a++b) (n+m):=by
 have e:(a++b).cps.toList=a.cps.toList++b.cps.toList:=by show (a.cps++b.cps).toList=_; simp
 unfold Ltr
 rw [e,List.length_append,ha.1,hb.1]
 refine ⟨rfl,fun c hc=>?_⟩
 rcases List.mem_append.mp hc with hc | hc
 ·exact ha.2 c hc
 ·exact hb.2 c hc
theorem Ltr.take {z:Str} {n:Nat} (h:Ltr z n) (k:Nat):Ltr (cutS z none (some (k:Int))) (min k n):=by
 have hl:=h.len
 have e:(cutS z none (some (k:Int))).cps.toList=z.cps.toList.take (min k n):=by
  unfold cutS
  rw [HT.sIx_none,HT.sIx_nat,hl]
  simp
 unfold Ltr
 rw [e,List.length_take,h.1]
 exact ⟨by omega,fun c hc=>h.2 c (List.mem_of_mem_take hc)⟩
theorem Ltr.cut {z:Str} {n:Nat} (h:Ltr z n) (a b:Nat):Ltr (cutS z (some (a:Int)) (some (b:Int))) (min b n-min a n):=by
 have hl:=h.len
 have e:(cutS z (some (a:Int)) (some (b:Int))).cps.toList=(z.cps.toList.drop (min a n)).take (min b n-min a n):=by
  unfold cutS
  rw [HT.sIx_nat,HT.sIx_nat,hl]
 unfold Ltr
 rw [e,List.length_take,List.length_drop,h.1]
 exact ⟨by omega,fun c hc=>h.2 c (List.mem_of_mem_drop (List.mem_of_mem_take hc))⟩
theorem z7t:∀ (cs:List Nat) (acc:Array Nat),((cs.map fun c=>(⟨#[c]⟩:Str)).foldl (fun acc p=>acc++(Str.ofString "").cps++p.cps) acc).toList=acc.toList++cs
 | [],acc=>by simp
 | c::cs,acc=>by
  have e0:(Str.ofString "").cps=#[]:=by decide +kernel
  rw [List.map_cons,List.foldl_cons,z7t cs]
  simp [e0]
theorem zb9 (cs:List Nat) (h:∀ c ∈ cs,97<=c/\c<=122):Ltr (Txt.join (Str.ofString "") (cs.map fun c=>⟨#[c]⟩)) cs.length:=by
 have e:(Txt.join (Str.ofString "") (cs.map fun c=>(⟨#[c]⟩:Str))).cps.toList=cs:=by
  show (Builtin.Str.glued (Str.ofString "") (cs.map fun c=>(⟨#[c]⟩:Str))).cps.toList=cs
  unfold Builtin.Str.glued
  cases cs with
  | nil=>rfl
  | cons c r =>
   show ((r.map fun c=>(⟨#[c]⟩:Str)).foldl (fun acc p=>acc++(Str.ofString "").cps++p.cps) #[c]).toList=c::r
   rw [z7t]
   rfl
 unfold Ltr
 rw [e]
 exact ⟨rfl,h⟩
abbrev abc:Str:=Str.ofString "abcdefghijklmnopqrstuvwxyz"
theorem zb5:∀ r:Nat,r < 26->∃ c,abc.cps.toList[r]?=some c/\97<=c/\c<=122:=by
 have:∀ r:Fin 26,∃ c:Fin 200,abc.cps.toList[r.val]?=some c.val/\97<=c.val/\c.val<=122:=by decide +kernel
 intro r hr
 obtain ⟨c,h⟩:=this ⟨r,hr⟩
 exact ⟨c.val,h⟩
theorem z9n:abc.length<=sizeLine:=by decide +kernel
theorem z6j {xs:List Nat} {j:Nat} {c:Nat} (h:xs[j]?=some c):atI xs (j:Int)=some c:=by
 have hj:j < xs.length:=(List.getElem?_eq_some_iff.mp h).1
 unfold atI ixN
 rw [if_pos (by omega),if_pos (by omega)]
 simpa using h
theorem zca (ks:List Str) (k:Nat):cutV (ks.map V.str) none (some (k:Int))=(ks.take k).map V.str:=by rw [zg5,List.map_take]
theorem z9d (ks:List Str) (k:Nat):cutV (ks.map V.str) (some (k:Int)) none=(ks.drop k).map V.str:=by rw [zfh,List.map_drop]
/-- sorted(xs),xs a list or a tuple of data that are alike -/
def zcf (K:PySem.W.Frag) {β:Type} (enc:β->PyData) (vs:List V) (H:Hp) (Q:VK):Prop:=∃ (a:Addr) (xs:List V) (bs:List β),vs=[V.ref a]/\(SqL K H a xs\/SqT K H a xs)/\Bears K H enc xs bs/\AllAlike (bs.map enc)/\Sortable (bs.map enc)/\bs.length<=10000/\(∀ b ∈ bs,(enc b).depth<=100) /\
 ∀ (p:Addr) (ys:List V),H p=none->Bears K H enc ys (bs.mergeSort (dataLe false enc))->Q (.ref p) (upd H p (.lst ys))
theorem zaj {X:Cx} {β:Type} (enc:β->PyData) (hu:X.A.units+110 < cLine):CallR X (.builtin "sorted") (zcf X.K enc):=by
 intro pins s σ H vs us Q I r h
 obtain ⟨a,xs,bs,h1,h2,h3⟩:=h
 rcases h2 with h2 | h2
 ·exact zac enc hu pins s σ H vs us Q I r ⟨a,xs,bs,h1,h2,h3⟩
 ·exact zat enc hu pins s σ H vs us Q I r ⟨a,xs,bs,h1,h2,h3⟩
theorem Gr.shaped_rows {bs:List (Tr × Int)} (h:∃ C,∀ b ∈ bs,z01 b.1.1/\b.1.2.Ok C/\b.1.2.deep<=18):SeqAt.shaped (.list (bs.map Gr.pEnc))=true:=by
 obtain ⟨C,h⟩:=h
 have h1:PyData.canLayAll0 (bs.map Gr.pEnc)=true:=by
  induction bs with
  | nil=>simp [PyData.canLayAll0]
  | cons b r ih =>
   have e:=ih fun c hc=>h c (mcm _ hc)
   obtain ⟨n,o,_⟩:=h b (mcs ..)
   rw [List.map_cons,PyData.canLayAll0,e]
   simp [Gr.pEnc,z0r,Gr.tEnc,PyData.canLay0,PyData.canLayAll0,Gr.enc,Gr.lays o,Gr.strOk_name n]
 have h2:PyData.depthAll (bs.map Gr.pEnc)<=57:=by
  clear h1
  induction bs with
  | nil=>simp [PyData.depthAll]
  | cons b r ih =>
   have e1:=ih (fun c hc=>h c (mcm _ hc))
   have e2:=(h b (mcs ..)).2.2
   have e3:=Gr.pEnc_depth b
   rw [List.map_cons,PyData.depthAll]
   omega
 have h3:(PyData.list (bs.map Gr.pEnc)).depth=PyData.depthAll (bs.map Gr.pEnc)+1:=by simp [PyData.depth]
 unfold SeqAt.shaped
 rw [PyData.canLay0,h1,Bool.true_and]
 exact decide_eq_true (by omega)
section
variable {K:PySem.W.Frag} {H:Hp} {p:Addr} {Q:VK} {σ:L2.St} {i:Nat} {m:Int}
/-- _law_take(purse,m) -/
theorem z79 (hσ:σ[i]?=some (some (.ref p))) (hp:PuG H p) (h1:1<=m) (h2:m < 2 ^ 250) (k:∀ r H',0<=r->r < m->SB [p] H H'->PuG H' p->Q (.int r) H') :
  tCall z0v [] E0 (tCons (tVar i) (tCons (tC (.int m)) tNil)) σ H Q:=⟨_,hσ,p,m,rfl,hp,h1,h2,k⟩
end
namespace Gr
/-- all pairs that stand anywhere -/
def within:Gr->List (Tr × Int)
 | .nil=>[]
 | .cons k g m r=>((k,g),m)::(g.within++r.within)
theorem within_ps:∀ g:Gr,g.within=g.ps.flatMap fun p=>p::p.1.2.within
 | .nil=>rfl
 | .cons k g m r=>by show ((k,g),m)::(g.within++r.within)=_; rw [within_ps r]; rfl
theorem within_length:∀ g:Gr,g.within.length=g.parts
 | .nil=>rfl
 | .cons k g m r=>by show (g.within++r.within).length+1=1+g.parts+r.parts; rw [List.length_append,within_length g,within_length r]; omega
theorem size_ps:∀ g:Gr,g.size=(g.ps.map fun p=>p.2*(1+p.1.2.size)).sum
 | .nil=>rfl
 | .cons k g m r=>by show m*(1+g.size)+r.size=m*(1+g.size)+(r.ps.map fun p=>p.2*(1+p.1.2.size)).sum; rw [size_ps r]
theorem deep_at:∀ h:Gr,0 < h.deep->∃ p ∈ h.ps,p.1.2.deep+1=h.deep
 | .nil,h=>by simp [deep] at h
 | .cons k g m r,_=>by
  by_cases hr:r.deep<=1+g.deep
  ·exact ⟨((k,g),m),mcs ..,by show g.deep+1=max (1+g.deep) r.deep; omega⟩
  ·obtain ⟨p,hp,e2⟩:=deep_at r (by omega)
   exact ⟨p,mcm _ hp,by show p.1.2.deep+1=max (1+g.deep) r.deep; omega⟩
theorem deep_max (g:Gr) (m:Int) (hm:m ∈ (g.ps.map fun p=>(p.1.2.deep:Int))) (hy:∀ a,a ∈ (g.ps.map fun p=>(p.1.2.deep:Int))->a<=m):(1:Int)+m=(g.deep:Int):=by
 obtain ⟨p,hp,rfl⟩:=List.mem_map.mp hm
 have h1:=g.mem_deep p hp
 obtain ⟨q,hq,e⟩:=g.deep_at (by omega)
 have:=hy _ (List.mem_map.mpr ⟨q,hq,rfl⟩)
 omega
theorem natAbs_lt {x:Int} {n:Nat} (h0:0<=x) (h:x < 2 ^ n):x.natAbs < 2 ^ n:=by
 have h2:((x.natAbs:Nat):Int)=x:=Int.natAbs_of_nonneg h0
 have h3:((2 ^ n:Nat):Int)=(2:Int) ^ n:=by rw [Int.natCast_pow]; rfl
 exact Int.ofNat_lt.mp (by rw [h2,h3]; exact h)
end Gr
def z1a (K:PySem.W.Frag) (n:Nat):Sp:=fun vs H Q _=>∃ (v:V) (g:Gr),vs=[v]/\GA K H v g/\g.deep < n/\g.parts<=200000/\∀ (D:Addr) (us:List V) (H':Hp),SB [] H H'->H D=none->H' D=some (.lst us)->Bears K H' Gr.pEnc us g.within->Q (.ref D) H'
def z4e (K:PySem.W.Frag) (n:Nat):Sp:=fun vs H Q _=>∃ (v:V) (g:Gr),vs=[v]/\GA K H v g/\g.deep < n/\g.parts<=200000/\∀ H',SB [] H H'->Q (.int (g.parts:Nat)) H'
def z1x (K:PySem.W.Frag) (n:Nat):Sp:=fun vs H Q _=>∃ (v:V) (g:Gr),vs=[v]/\GA K H v g/\g.deep < n/\g.parts<=200000/\∀ H',SB [] H H'->Q (.int (g.deep:Nat)) H'
section
variable {P:Program} {w:World} {K:PySem.W.Frag} {mg:Str->Option Value} {base:Heap} {f:Addr} {fd:FuncData}
theorem zcq {ps:List Str} {k:Nat}:FnOk P w K mg base CX0 k f fd ps (z1a K 0):=z1n fun vs H Q E ⟨v,l,_,_,h,_⟩=>by omega
theorem zd5 {ps:List Str} {k:Nat}:FnOk P w K mg base CX0 k f fd ps (z1x K 0):=z1n fun vs H Q E ⟨v,l,_,_,h,_⟩=>by omega
end
mutual
def plS:PyData->Bool
 | .int _=>true
 | .str x=>PyData.strOk x
 | .tuple ds=>plSs ds
 | _=>false
def plSs:List PyData->Bool
 | []=>true
 | d::ds=>plS d&&plSs ds
end
mutual
theorem za7:∀ d:PyData,plS d=true->d.canLay0=true
 | .int _,_=>by simp [PyData.canLay0]
 | .str _,h=>by rw [plS] at h; rw [PyData.canLay0]; exact h
 | .tuple ds,h=>by rw [plS] at h; rw [PyData.canLay0]; exact z67 ds h
 | .none,h=>by simp [plS] at h
 | .bool _,h=>by simp [plS] at h
 | .list _,h=>by simp [plS] at h
 | .dict _,h=>by simp [plS] at h
theorem z67:∀ ds:List PyData,plSs ds=true->PyData.canLayAll0 ds=true
 | [],_=>by simp [PyData.canLayAll0]
 | d::ds,h=>by
  rw [plSs,Bool.and_eq_true] at h
  rw [PyData.canLayAll0,za7 d h.1,z67 ds h.2]; rfl
end
namespace Gr
def tgt (g k:Gr):Gr:=tidy (g.ps++k.ps)
theorem tgt_ps (g k:Gr):(tgt g k).ps=tdy tEnc (g.ps++k.ps):=ps_ofPs _
theorem tgt_parts (g k:Gr):(tgt g k).parts<=g.parts+k.parts:=by
 have:=tidy_parts (g.ps++k.ps)
 rw [tot_append,tot_ps,tot_ps] at this
 exact this
theorem tgt_deep {n:Nat} {g k:Gr} (hg:g.deep<=n) (hk:k.deep<=n):(tgt g k).deep<=n:=tidy_deep fun p hp=>by
 rcases List.mem_append.mp hp with h | h
 ·have:=g.mem_deep p h; omega
 ·have:=k.mem_deep p h; omega
/-- how many of a tree -/
abbrev S (g:Gr) (t:Tr):Int:=sumE g.ps t
theorem S_tgt (g k:Gr) (t:Tr):S (tgt g k) t=S g t+S k t:=by
 show sumE (tgt g k).ps t=_
 rw [tgt_ps,z5s,z0f]
theorem S_zero {bs:List (Tr × Int)} {t:Tr} (h:∀ p ∈ bs,p.1 ≠ t):sumE bs t=0:=by
 induction bs with
 | nil=>rfl
 | cons p r ih =>
  show (if p.1=t then p.2 else 0)+sumE r t=0
  rw [if_neg (h p (mcs ..)),ih fun q hq=>h q (mcm _ hq)]; rfl
/-- two right groves with as many of each tree are the same -/
theorem ext_ps:∀ {as bs:List (Tr × Int)},as.Pairwise (fun p q=>dataLt (tEnc p.1) (tEnc q.1)=true)->bs.Pairwise (fun p q=>dataLt (tEnc p.1) (tEnc q.1)=true)->(∀ p ∈ as,1<=p.2)->(∀ p ∈ bs,1<=p.2)->(∀ t,sumE as t=sumE bs t)->as=bs
 | [],[],_,_,_,_,_=>rfl
 | [],b::bs,_,h2,_,p2,h=>by
  have:=h b.1
  have hz:sumE bs b.1=0:=S_zero fun q hq z=>by have:=(List.pairwise_cons.mp h2).1 q hq; rw [z,z13] at this; cases this
  have e:sumE (b::bs) b.1=b.2+sumE bs b.1:=by show (if b.1=b.1 then b.2 else 0)+_=_; rw [if_pos rfl]
  rw [e,hz] at this
  have:=p2 b (mcs ..)
  have z:sumE ([]:List (Tr × Int)) b.1=0:=rfl
  omega
 | a::as,[],h1,_,p1,_,h=>by
  have:=h a.1
  have hz:sumE as a.1=0:=S_zero fun q hq z=>by have:=(List.pairwise_cons.mp h1).1 q hq; rw [z,z13] at this; cases this
  have e:sumE (a::as) a.1=a.2+sumE as a.1:=by show (if a.1=a.1 then a.2 else 0)+_=_; rw [if_pos rfl]
  rw [e,hz] at this
  have:=p1 a (mcs ..)
  have z:sumE ([]:List (Tr × Int)) a.1=0:=rfl
  omega
 | a::as,b::bs,h1,h2,p1,p2,h=>by
  obtain ⟨a1,a2⟩:=List.pairwise_cons.mp h1
  obtain ⟨b1,b2⟩:=List.pairwise_cons.mp h2
  have pa:=p1 a (mcs ..)
  have pb:=p2 b (mcs ..)
  have za:∀ t,(t=a.1\/dataLt (tEnc t) (tEnc a.1)=true)->sumE as t=0:=fun t ht=>S_zero fun q hq z=>by
   have q1:=a1 q hq
   rw [z] at q1
   rcases ht with ht | ht
   ·rw [ht,z13] at q1; cases q1
   ·rw [z3e ht] at q1; cases q1
  have zb:∀ t,(t=b.1\/dataLt (tEnc t) (tEnc b.1)=true)->sumE bs t=0:=fun t ht=>S_zero fun q hq z=>by
   have q1:=b1 q hq
   rw [z] at q1
   rcases ht with ht | ht
   ·rw [ht,z13] at q1; cases q1
   ·rw [z3e ht] at q1; cases q1
  have ea:∀ t,sumE (a::as) t=(if a.1=t then a.2 else 0)+sumE as t:=fun t=>rfl
  have eb:∀ t,sumE (b::bs) t=(if b.1=t then b.2 else 0)+sumE bs t:=fun t=>rfl
  have hab:a.1=b.1:=by
   by_cases e:a.1=b.1
   ·exact e
   ·exfalso
    cases hlt:dataLt (tEnc a.1) (tEnc b.1) with
    | true =>
     have:=h a.1
     rw [ea,eb,if_pos rfl,if_neg (fun z=>e z.symm),za _ (.inl rfl),zb _ (.inr hlt)] at this
     omega
    | false =>
     have hlt2:=z6p (enc:=tEnc) e hlt
     have:=h b.1
     rw [ea,eb,if_pos rfl,if_neg e,zb _ (.inl rfl),za _ (.inr hlt2)] at this
     omega
  have hm:a.2=b.2:=by
   have:=h a.1
   rw [ea,eb,if_pos rfl,if_pos hab.symm,za _ (.inl rfl),zb _ (.inl hab)] at this
   omega
  have he:a=b:=Prod.ext hab hm
  subst he
  rw [ext_ps a2 b2 (fun p hp=>p1 p (mcm _ hp)) (fun p hp=>p2 p (mcm _ hp)) fun t=>by have:=h t; rw [ea,eb] at this; omega]
theorem ext {C D:Int} {g k:Gr} (hg:g.Ok C) (hk:k.Ok D) (h:∀ t,S g t=S k t):g=k:=by
 have h1:=ok_iff.mp hg
 have h2:=ok_iff.mp hk
 have:=ext_ps h1.2 h2.2 (fun p hp=>(h1.1 p hp).2.2.1) (fun p hp=>(h2.1 p hp).2.2.1) h
 rw [<- ofPs_ps g,<- ofPs_ps k,this]
end Gr
theorem z38 {n:Nat} (h:n<=1000000):n < sizeLine:=by
 have:sizeLine=16777216:=sizeLine_eq
 omega
/-- the head of a law over groves: a head's purse,names,and what is kept -/
structure Hd (K:PySem.W.Frag) (H H3:Hp) (p0 nm:Addr) (ks:List Str):Prop where
 hp:PuG H3 p0
 hnm:H3 nm=some (.lst (ks.map V.str))
 k1:1<=ks.length
 k8:ks.length<=8
 kn:∀ k ∈ ks,z01 k
 ne:nm ≠ p0
 sb:SB [p0] H H3
 np:H p0=none
theorem Hd.step {K:PySem.W.Frag} {H H3 H4:Hp} {p0 nm:Addr} {ks:List Str} (h:Hd K H H3 p0 nm ks) (s:SB [p0] H3 H4) (hp:PuG H4 p0):Hd K H H4 p0 nm ks :=
 ⟨hp,s.keep _ _ h.hnm (by simpa using h.ne),h.k1,h.k8,h.kn,h.ne,h.sb.trans s,h.np⟩
open PySem.Sem in
theorem zbo {v:Value} {o:Obj} {Hh:Heap->Prop} (Bg:Begins v o Hh) :
  Meets (Builtin.«enumerate.__new__» ⟨[.type "enumerate",v],[]⟩) (fun _ R s=>Hh s.heap/\R (.ok (.ret (.ref (s.heap.push o).objs.size))) { s with heap:=(s.heap.push o).push { cls:=.type "enumerate",data:=.fields #[.none,.bool false,.ref s.heap.objs.size,rawInt 0,.none,.none] } }) :=
 .of_wp fun prog w A R s h=>by
  obtain ⟨hp,g,d,tk,os⟩:=s
  obtain ⟨h1,h⟩:=h
  have hsub:=sub_enumerate
  have go:∀ {A2:Around} {E2:Value->Shared->Prop} {Q2:Value->Shared->Prop},Q2 (.ref hp.objs.size) ⟨hp.push o,g,d,tk,os⟩->wpAny (model prog w) A2 (pyIter v) Q2 E2 ⟨hp,g,d,tk,os⟩:=fun z=>Bg.iter prog w _ _ ⟨hp,g,d,tk,os⟩ _ h1 z
  wp_walk using go
  refine wpAny_stack_any fun stk=>wpAny_pure ?_
  split
  ·rename_i cl _ _ _ _ _
   cases (cl == Value.type "enumerate") <;> (wp_walk using go; exact ⟨_,rfl,h⟩)
  ·wp_walk using go; exact ⟨_,rfl,h⟩
section
variable {prog:Program} {w:World} {A:Around} {E:Value->Shared->Prop} {s:Shared}
theorem zal {t:Addr} {items:Array Value} {Q:Value->Shared->Prop} (hT:s.heap.IsTuple t items)
  (h:∀ h2,IsEnum h2 (s.heap.objs.size+1) s.heap.objs.size 0 .none->h2.IsTupleIter s.heap.objs.size t 0->(∀ b ob,s.heap.get? b=some ob->h2.get? b=some ob)->Q (.ref (s.heap.objs.size+1)) { s with heap:=h2 }):wpAny (model prog w) A (call (.type "enumerate") [.ref t]) Q E s:=by
 have Bg:=begins_tuple t items
 refine callType_new F.called_enumerate (by decide) (F.typeCall_enumerate_1 _) (F.newCall_enumerate_1 _) (fun ob=>F.args_object_init_2 ob _) F.entry_enumerate_new (zbo Bg) ⟨hT,?_⟩
 have hz:(s.heap.push { cls:=.type "tuple_iterator",data:=.fields #[.ref t,.int 0 0] }).objs.size=s.heap.objs.size+1:=Heap.size_push ..
 show _/\_
 rw [hz]
 have he:IsEnum ((s.heap.push { cls:=.type "tuple_iterator",data:=.fields #[.ref t,.int 0 0] }).push { cls:=.type "enumerate",data:=.fields #[.none,.bool false,.ref s.heap.objs.size,rawInt 0,.none,.none] }) (s.heap.objs.size+1) s.heap.objs.size 0 .none:=by
  have z:=Heap.get?_push_size (s.heap.push { cls:=.type "tuple_iterator",data:=.fields #[.ref t,.int 0 0] }) (o:={ cls:=.type "enumerate",data:=.fields #[.none,.bool false,.ref s.heap.objs.size,rawInt 0,.none,.none] }) rfl
  rw [hz] at z
  exact z
 exact ⟨⟨_,he,rfl⟩,h _ he ⟨_,Heap.get?_push_of_some _ (Heap.get?_push_size _ rfl),rfl,rfl⟩ fun b ob x=>Heap.get?_push_of_some _ (Heap.get?_push_of_some _ x)⟩
end
/-- the tuple at a,each item in a new pair with its number -/
def IteT (K:PySem.W.Frag) (a:Addr):It :=
 ⟨fun i H=>∃ (xs:List V) (x:V),SqT K H a xs/\xs[i]?=some x,
  fun i H v H2=>∃ T x,v=.ref T/\H T=none/\H2=upd H T (.tup [.int (i:Nat),x])/\∀ xs,SqT K H a xs->xs[i]?=some x,
  fun i H=>∃ xs:List V,SqT K H a xs/\xs.length=i⟩
theorem zaf {P:Program} {w:World} {K:PySem.W.Frag} {elts:List Expr} {kk:Nat} {tpos:Pos} (a e it:Addr) (hei:e ≠ it) (hai:a ≠ it) (hea:e ≠ a) :
  Turn P w K (.Tuple elts kk tpos) (IteT K a) [e,it] e (fun i h=>(∃ old,IsEnum h e it ((i:Nat):Int) old)/\h.IsTupleIter it a i) where
 mem:=by simp
 obj:=fun i h st b hb=>by
  obtain ⟨⟨old,he⟩,o,ho,hc,hd⟩:=st
  rcases (show b=e\/b=it by simpa using hb) with z | z
  ·rw [z]; exact ⟨_,he,fun v q=>nomatch q⟩
  ·rw [z]; exact ⟨o,ho,fun v q=>by rw [hd] at q; cases q⟩
 keep:=fun i h h2 st k=>let ⟨⟨old,he⟩,o,ho,r⟩:=st; ⟨⟨old,k e (by simp) _ he⟩,o,k it (by simp) o ho,r⟩
 item:=by
  intro X hP hw hK hc i pins s σ H E I hf st hg
  subst hP hw hK
  obtain ⟨⟨old,he⟩,hit⟩:=st
  obtain ⟨xs,x,hq,hx⟩:=hg
  obtain ⟨its,rv,p,hz⟩:=I.tuple hq
  obtain ⟨u,hu,ru⟩:=rv.get hx
  have hel:e < s.heap.objs.size:=Heap.lt_size he
  have hil:it < s.heap.objs.size:=by obtain ⟨_,z,_⟩:=hit; exact Heap.lt_size z
  have Dr:=Draws.tuple (prog:=X.prog) (w:=X.w) (A:=X.A.in1) (I.ok.hd hc) it a hai its.toArray
  have hlt:i < its.toArray.size:=by
   have:=(List.getElem?_eq_some_iff.mp hu).1
   simpa using this
  refine wpAny_pyNext_enum_itemD Dr he ⟨hit,p⟩ hlt hei (by simp [hei,hea]) fun y h2 tk hy ho hst hT hsz hk=>?_
  have hyu:y=u:=by
   have h3:its[i]?=some y:=by simpa using hy
   rw [hu] at h3; exact (Option.some.inj h3).symm
  subst hyu
  refine ⟨_,rfl,wpAny_letOwnedTupleGo_enum (s:={ s with heap:=h2,toks:=tk+1 }) ho fun h3 he3 sb=>?_⟩
  have hT2:h3.get? s.heap.objs.size=some { cls:=.type "tuple",data:=.seq #[.int i tk,y] }:=(sb.2 _ (Nat.ne_of_gt hel)).trans hT
  have nw:ObjOk X.prog X.w (upd H s.heap.objs.size (.tup [.int (i:Nat),x])) h3 s.heap.objs.size (.tup [.int (i:Nat),x]):=⟨by show 2<=sizeLine; decide,[.int i tk,y],.cons ⟨_,rfl⟩ (.cons ru .nil),⟨_,hT2,rfl,_,rfl⟩⟩
  have I1:Inv X pins σ (upd H s.heap.objs.size (.tup [.int (i:Nat),x])) { s with heap:=h3,toks:=tk+1 }:=I.turnedNew (ch:=[e,it]) (fun b ob hb z=>(sb.2 b (fun y=>hb (by simp [y]))).trans (hk b ob (fun y=>hb (by simp [y])) (fun y=>hb (by simp [y])) z)) hf (Nat.le_refl _) nw
  refine ⟨.ref s.heap.objs.size,_,I1,rfl,⟨_,x,rfl,I.hok.fresh (Nat.le_refl _),rfl,fun ys hy=>by rw [I.tuple_inj hy hq]; exact hx⟩,⟨⟨y,?_⟩,?_⟩,fun b hb=>?_⟩
  ·rw [show ((i+1:Nat):Int)=(i:Int)+1 by omega]; exact he3
  ·obtain ⟨o,ho2,r⟩:=hst.1
   exact ⟨o,(sb.2 it (Ne.symm hei)).trans ho2,r⟩
  ·have hb2:b < s.heap.objs.size:=by
    rcases (show b=e\/b=it by simpa using hb) with z | z
    ·rw [z]; exact hel
    ·rw [z]; exact hil
   rw [upd_ne (Nat.ne_of_lt hb2)]; exact (hf b hb).1
 done:=by
  intro X hP hw hK hc i pins s σ H E I hf st hg
  subst hP hw hK
  obtain ⟨⟨old,he⟩,hit⟩:=st
  obtain ⟨xs,hq,hx⟩:=hg
  obtain ⟨its,rv,p,hz⟩:=I.tuple hq
  obtain ⟨f0,f1,f2,f3,f4,f5⟩:=hf it (by simp)
  have hl:=rv.length
  have ht:s.heap.IsTuple a its.toArray:=p
  have Dr:=Draws.tuple (prog:=X.prog) (w:=X.w) (A:=X.A.in1) (I.ok.hd hc) it a hai its.toArray
  have hn:its.toArray.size=i:=by simp; omega
  refine wpAny_pyNext_enum_endD Dr he ⟨by rw [hn]; exact hit,ht⟩ fun h2 eb=>⟨rfl,I.turned (t':=s.toks) (fun b o hb z=>eb b o hb z) f0 f1 f3 f4 f5⟩
 self:=fun A i s Q E st h=>let ⟨⟨_,he⟩,_⟩:=st; wpAny_pyIter_enum he h
def zi6 (K:PySem.W.Frag) (te:TE):TI:=fun σ H R=>te σ H fun v H1=>∃ a xs,v=.ref a/\SqT K H1 a xs/\R (IteT K a) H1
theorem zcl {X:Cx} {ex:Expr} {te:TE} {p pos tpos:Pos} {elts:List Expr} {kk:Nat} (hg:Gl X "enumerate") (hm:X.mg "enumerate"=none) (he:PE X ex te) (hs:starEach [ex] X.env=(false,eval ex X.env)::starEach [] X.env:=by rfl) :
  PI X (.Tuple elts kk tpos) (.Call (.Name "enumerate" p) [ex] [] pos) (zi6 X.K te):=by
 refine ⟨fun pins s σ H R I h=>?_⟩
 refine Call_ (ld_blt I hg hm boot_enumerate (PyProof.Rows.callWith_type1 (args_cons (thn (he.run pins s σ H _ I h) fun u s1 ⟨v,H1,I1,r1,q1⟩=>args_nil ?_) hs) hs rfl))
 obtain ⟨a,xs,ev,hq,q⟩:=q1
 subst ev
 cases r1
 obtain ⟨its,rv,pt,hz⟩:=I1.tuple hq
 have ht:s1.heap.IsTuple a its.toArray:=pt
 have hal:a < s1.heap.objs.size:=by obtain ⟨_,z,_⟩:=ht; exact Heap.lt_size z
 refine zal ht fun h2 he2 hit hk=>wpAny_pyIter_enum he2 ?_
 have I2:Inv X pins σ H1 { s1 with heap:=h2 }:=I1.kept (t':=s1.toks) hk
 refine ⟨s1.heap.objs.size+1,[s1.heap.objs.size+1,s1.heap.objs.size],_,_,H1,rfl,I2,zaf a (s1.heap.objs.size+1) s1.heap.objs.size (Nat.succ_ne_self _) (Nat.ne_of_lt hal) (Nat.ne_of_gt (Nat.lt_succ_of_lt hal)),⟨⟨.none,he2⟩,hit⟩,fun b hb=>?_,q⟩
 have hle:s1.heap.objs.size<=b:=by
  rcases (show b=s1.heap.objs.size+1\/b=s1.heap.objs.size by simpa using hb) with z | z
  ·rw [z]; exact Nat.le_add_right _ _
  ·rw [z]; exact Nat.le_refl _
 exact I1.fpOk hle (I1.hok.fresh hle)
theorem zad {K:PySem.W.Frag} {a:Addr} {xs:List V}:Walk (IteT K a) xs.length (fun H=>SqT K H a xs) (YPair (fun i=>some (.int (i:Nat))) (fun i=>xs[i]?)):=by
 refine ⟨fun i _ hi q=>⟨xs,xs[i],q,by simp [hi]⟩,fun _ q=>⟨xs,q,rfl⟩,fun i H v H2 _ q y=>?_⟩
 obtain ⟨T,x,h1,h2,h3,h4⟩:=y
 exact ⟨T,.int (i:Nat),x,h1,h2,h3,rfl,h4 xs q⟩
abbrev Pl:=List Nat
def z0a (p:Pl):List PyData:=p.map fun n:Nat=>.int (n:Int)
def z0u (p:Pl):PyData:=.tuple (z0a p)
theorem z7z:∀ p q:Pl,alikeAll (z0a p) (z0a q)=true
 | [],_=>by simp [z0a,alikeAll]
 | _::_,[]=>by simp [z0a,alikeAll]
 | a::p,b::q=>by
  have:=z7z p q
  show alikeAll (.int a::z0a p) (.int b::z0a q)=true
  simp [alikeAll,alike,this]
theorem z9o:∀ p q:Pl,PyData.eqvAll (z0a p) (z0a q)=decide (p=q)
 | [],[]=>by simp [z0a,PyData.eqvAll]
 | [],_::_=>by simp [z0a,PyData.eqvAll]
 | _::_,[]=>by simp [z0a,PyData.eqvAll]
 | a::p,b::q=>by
  have ih:=z9o p q
  show PyData.eqvAll (.int a::z0a p) (.int b::z0a q)=_
  simp only [PyData.eqvAll,PyData.eqv,ih,ib]
  by_cases h:a=b
  ·subst h; simp
  ·have:¬ ((a:Int)=(b:Int)):=by omega
   simp [h,this]
instance:Orderly z0u where
 al a b:=by show alike (.tuple _) (.tuple _)=true; rw [alike]; exact z7z a b
 eq a b:=by show PyData.eqv (.tuple _) (.tuple _)=_; rw [PyData.eqv]; exact z9o a b
theorem z0c (p:Pl):z03 (z0u p)=true:=by
 have:∀ p:Pl,z05 (z0a p)=true:=by
  intro p
  induction p with
  | nil=>simp [z0a,z05]
  | cons a r ih=>show z05 (.int a::z0a r)=true; simp [z05,z03,ih]
 show z03 (.tuple _)=true
 rw [z03]; exact this p
theorem zbc (p:Pl):PyData.depthAll (z0a p)=0:=by
 induction p with
 | nil=>simp [z0a,PyData.depthAll]
 | cons a r ih=>show PyData.depthAll (.int a::z0a r)=0; simp [PyData.depthAll,PyData.depth,ih]
theorem zck (p:Pl):(z0u p).depth=1:=by show (PyData.tuple _).depth=1; simp [PyData.depth,zbc]
theorem zct (p:Pl):plSs (z0a p)=true:=by
 induction p with
 | nil=>simp [z0a,plSs]
 | cons a r ih=>show plSs (.int a::z0a r)=true; simp [plSs,plS,ih]
theorem z2c {K:PySem.W.Frag} {H:Hp} {v:V} {p:Pl} (h:Dp K H v (z0u p)):∃ a,v=.ref a/\SqT K H a (p.map fun n:Nat=>V.int (n:Int)):=by
 have key:∀ {p:Pl} {xs:List V},DpAll K H xs (z0a p)->xs=p.map fun n:Nat=>V.int (n:Int):=by
  intro p
  induction p with
  | nil=>intro xs h; cases h; rfl
  | cons a r ih =>
   intro xs h
   cases h with
   | cons h1 h2=>cases h1; rw [ih h2]; rfl
 cases h with
 | tup hs ha=>rw [key ha] at hs; exact ⟨_,rfl,hs⟩
theorem z82 {K:PySem.W.Frag} {H:Hp} {a:Addr} {p:Pl} (h:SqT K H a (p.map fun n:Nat=>V.int (n:Int))):Dp K H (.ref a) (z0u p):=by
 refine Dp.tup h ?_
 have key:∀ p:Pl,DpAll K H (p.map fun n:Nat=>V.int (n:Int)) (z0a p):=by
  intro p
  induction p with
  | nil=>exact .nil
  | cons a r ih=>exact .cons (.int _) ih
 exact key p
namespace Gr
/-- the places of bare trees,from the number i on -/
def bp:Gr->Nat->List Pl
 | .nil,_=>[]
 | .cons _ g _ r,i=>(if g=.nil then [[i]] else (g.bp 0).map (i::·))++r.bp (i+1)
def bpP (p:Tr × Int) (i:Nat):List Pl:=if p.1.2=.nil then [[i]] else (p.1.2.bp 0).map (i::·)
def bps:List (Tr × Int)->Nat->List Pl
 | [],_=>[]
 | p::r,i=>bpP p i++bps r (i+1)
theorem bp_ps:∀ (g:Gr) (i:Nat),g.bp i=bps g.ps i
 | .nil,_=>rfl
 | .cons k g m r,i=>by show _++r.bp (i+1)=_++bps r.ps (i+1); rw [bp_ps r]; rfl
theorem bps_append:∀ (as bs:List (Tr × Int)) (i:Nat),bps (as++bs) i=bps as i++bps bs (i+as.length)
 | [],bs,i=>by simp [bps]
 | p::r,bs,i=>by
  show bpP p i++bps (r++bs) (i+1)=_
  rw [bps_append r bs (i+1)]
  show _=(bpP p i++bps r (i+1))++bps bs (i+(r.length+1))
  rw [List.append_assoc,show i+1+r.length=i+(r.length+1) by omega]
theorem bps_take {bs:List (Tr × Int)} {i:Nat} {p:Tr × Int} (h:bs[i]?=some p):bps (bs.take (i+1)) 0=bps (bs.take i) 0++bpP p i:=by
 have hl:i < bs.length:=(List.getElem?_eq_some_iff.mp h).1
 rw [List.take_add_one,h,bps_append,List.length_take,Nat.min_eq_left (by omega),Nat.zero_add]
 show _++(bpP p i++[])=_
 rw [List.append_nil]
theorem bp_len:∀ (g:Gr) (i:Nat),(g.bp i).length<=g.parts
 | .nil,_=>Nat.zero_le _
 | .cons k g m r,i=>by
  have h1:=bp_len g 0
  have h2:=bp_len r (i+1)
  show (_++r.bp (i+1)).length<=1+g.parts+r.parts
  rw [List.length_append]
  split
  ·show 1+_<=_; omega
  ·rw [List.length_map]; omega
theorem bp_long:∀ (g:Gr) (i:Nat),∀ p ∈ g.bp i,p.length<=g.deep
 | .nil,_,p,h=>by cases h
 | .cons k g m r,i,p,h=>by
  have h1:=bp_long g 0
  have h2:=bp_long r (i+1)
  show p.length<=max (1+g.deep) r.deep
  rcases List.mem_append.mp h with h | h
  ·by_cases hg:g=.nil
   ·rw [if_pos hg] at h
    have:p=[i]:=by simpa using h
    subst this; show 1<=_; omega
   ·rw [if_neg hg] at h
    obtain ⟨q,hq,rfl⟩:=List.mem_map.mp h
    have:=h1 q hq
    show q.length+1<=_; omega
  ·have:=h2 p h; omega
end Gr
def z2g (K:PySem.W.Frag) (n:Nat):Sp:=fun vs H Q _=>∃ (v:V) (g:Gr),vs=[v]/\GA K H v g/\g.deep < n/\g.deep<=100/\g.parts<=1000/\∀ (D:Addr) (us:List V) (H':Hp),SB [] H H'->H D=none->H' D=some (.lst us)->Bears K H' z0u us (g.bp 0)->Q (.ref D) H'
section
variable {P:Program} {w:World} {K:PySem.W.Frag} {mg:Str->Option Value} {base:Heap} {f:Addr} {fd:FuncData}
theorem zda {ps:List Str} {k:Nat}:FnOk P w K mg base CX0 k f fd ps (z2g K 0):=z1n fun vs H Q E ⟨v,l,_,_,h,_⟩=>by omega
end
/-- a thing in a place: which whole number it is,if it is one -/
def Wh (K:PySem.W.Frag) (H:Hp) (v:V) (o:Option Int):Prop:=(∃ i,v=.int i/\o=some i)\/(o=none/\∃ (n:String) (b1 b2:Bool),TyX K H v (.type n)/\kitB n "int"=some b1/\(b1=true->kitB n "bool"=some b2)/\(b1&&!b2)=false)
inductive Whs (K:PySem.W.Frag) (H:Hp):List V->List (Option Int)->Prop where
 | nil:Whs K H [] []
 | cons {v:V} {o:Option Int} {vs:List V} {os:List (Option Int)}:Wh K H v o->Whs K H vs os->Whs K H (v::vs) (o::os)
section
variable {K:PySem.W.Frag} {H H':Hp}
theorem Whs.length:∀ {vs:List V} {os:List (Option Int)},Whs K H vs os->vs.length=os.length
 | _,_,.nil=>rfl
 | _,_,.cons _ h=>congrArg (·+1) h.length
theorem Whs.get:∀ {vs:List V} {os:List (Option Int)},Whs K H vs os->∀ {i:Nat} {v:V},vs[i]?=some v->∃ o,os[i]?=some o/\Wh K H v o
 | _,_,.nil,i,v,e=>by simp at e
 | _,_,.cons (o:=o) h hs,0,v,e=>by
  have:_=v:=Option.some.inj e
  subst this; exact ⟨o,rfl,h⟩
 | _,_,.cons h hs,i+1,v,e=>hs.get (i:=i) e
theorem Whs.append:∀ {vs us:List V} {os ps:List (Option Int)},Whs K H vs os->Whs K H us ps->Whs K H (vs++us) (os++ps)
 | _,_,_,_,.nil,h=>h
 | _,_,_,_,.cons a b,h=>.cons a (b.append h)
theorem Wh.sb {v:V} {o:Option Int} (h:Wh K H v o) (e:SB [] H H'):Wh K H' v o:=by
 rcases h with h | ⟨h,n,b1,b2,ty,k⟩
 ·exact .inl h
 ·exact .inr ⟨h,n,b1,b2,z1h e (fun _ _=>nmn) ty,k⟩
theorem Whs.sb (e:SB [] H H'):∀ {vs:List V} {os:List (Option Int)},Whs K H vs os->Whs K H' vs os
 | _,_,.nil=>.nil
 | _,_,.cons h hs=>.cons (h.sb e) (Whs.sb e hs)
def plO (p:Pl):List (Option Int):=p.map fun n:Nat=>some (n:Int)
theorem Whs.pl (K:PySem.W.Frag) (H:Hp):∀ p:Pl,Whs K H (p.map fun n:Nat=>V.int (n:Int)) (plO p)
 | []=>.nil
 | n::r=>.cons (.inl ⟨_,rfl,rfl⟩) (Whs.pl K H r)
end
def stp (g:Gr):Option Int->Option Tr
 | none=>none
 | some n=>if 0<=n then (g.ps[n.toNat]?).map (·.1) else none
def lk:Tr->List (Option Int)->Option Tr
 | t,[]=>some t
 | t,o::r=>(stp t.2 o).bind fun u=>lk u r
theorem z4o:∀ (t:Tr) (as bs:List (Option Int)),lk t (as++bs)=(lk t as).bind fun u=>lk u bs
 | t,[],bs=>rfl
 | t,o::r,bs=>by
  show (stp t.2 o).bind (fun u=>lk u (r++bs))=((stp t.2 o).bind fun u=>lk u r).bind fun u=>lk u bs
  cases stp t.2 o with
  | none=>rfl
  | some u=>exact z4o u r bs
theorem zg2 {t:Tr} {os:List (Option Int)} {i:Nat} {o:Option Int} {u:Tr} (h1:lk t (os.take i)=some u) (h2:os[i]?=some o) (h3:stp u.2 o=none):lk t os=none:=by
 have hl:i < os.length:=(List.getElem?_eq_some_iff.mp h2).1
 have e:os=os.take i++o::os.drop (i+1):=by
  have:=List.drop_eq_getElem_cons hl
  rw [(List.getElem?_eq_some_iff.mp h2).2] at this
  rw [<- this,List.take_append_drop]
 rw [e,z4o,h1]
 show (stp u.2 o).bind _=none
 rw [h3]; rfl
theorem zg4 {t:Tr} {os:List (Option Int)} {i:Nat} {o:Option Int} {u x:Tr} (h1:lk t (os.take i)=some u) (h2:os[i]?=some o) (h3:stp u.2 o=some x):lk t (os.take (i+1))=some x:=by
 rw [List.take_add_one,h2,z4o,h1]
 show (stp u.2 o).bind _=some x
 rw [h3]; rfl
/-- the tree at a place,or an error of the class at C -/
def z44 (K:PySem.W.Frag) (C:Addr):Sp:=fun vs H Q E=>∃ (v:V) (g:Gr) (a:Addr) (xs:List V) (os:List (Option Int)),vs=[v,.ref a]/\GA K H v g/\SqT K H a xs/\Whs K H xs os /\
 (∀ t,os ≠ []->lk ("",g) os=some t->∀ (x:V) (H':Hp),SB [] H H'->Dp K H' x (Gr.tEnc t)->Q x H')/\((os=[]\/lk ("",g) os=none)->∀ H',SB [] H H'->E (.ref C) none H')
mutual
inductive Tg (K:PySem.W.Frag) (H:Hp):V->PyData->Prop
 | int (i:Int):Tg K H (.int i) (.int i)
 | str (z:Str):z.length<=1000->Tg K H (.str z) (.str z)
 | tup {a:Addr} {xs:List V} {ds:List PyData}:SqT K H a xs->TgAll K H xs ds->Tg K H (.ref a) (.tuple ds)
 | oth {v:V} {n:String}:TyX K H v (.type n)->kitB n "tuple"=some false->kitB n "str"=some false->(kitB n "int"=some false\/n="bool")->Tg K H v .none
inductive TgAll (K:PySem.W.Frag) (H:Hp):List V->List PyData->Prop
 | nil:TgAll K H [] []
 | cons {v:V} {vs:List V} {d:PyData} {ds:List PyData}:Tg K H v d->TgAll K H vs ds->TgAll K H (v::vs) (d::ds)
end
mutual
/-- the same without its texts -/
def z24:PyData->PyData
 | .int i=>.int i
 | .tuple ds=>.tuple (z4n ds)
 | _=>.none
def z4n:List PyData->List PyData
 | []=>[]
 | d::r=>z24 d::z4n r
end
theorem z6s (d:PyData):z0w (z24 d)=z0w d:=by cases d <;> simp [z24,z0w]
section
variable {K:PySem.W.Frag} {H H':Hp}
mutual
theorem Tg.th:∀ {v:V} {d:PyData},Tg K H v d->Th K [] H v (z24 d)
 | _,_,.int i=>by rw [z24]; exact .int i
 | _,_,.str z _=>by rw [z24] <;> first | exact .oth (.base (.str z)) (by decide +kernel) (.inl (by decide +kernel)) (fun _ _=>nmn) | simp
 | _,_,.tup hs ha=>by rw [z24]; exact .tup hs (TgAll.th ha)
 | _,_,.oth ty k1 _ k2=>by rw [z24] <;> first | exact .oth ty k1 k2 (fun _ _=>nmn) | simp
theorem TgAll.th:∀ {vs:List V} {ds:List PyData},TgAll K H vs ds->ThAll K [] H vs (z4n ds)
 | _,_,.nil=>by rw [z4n]; exact .nil
 | _,_,.cons h t=>by rw [z4n]; exact .cons (Tg.th h) (TgAll.th t)
end
mutual
theorem z25 (e:SB [] H H'):∀ {v:V} {d:PyData},Tg K H v d->Tg K H' v d
 | _,_,.int i=>.int i
 | _,_,.str z hz=>.str z hz
 | _,_,.tup hs ha=>.tup (e.sqT hs) (z6d e ha)
 | _,_,.oth ty k0 k1 k2=>.oth (z1h e (fun _ _=>nmn) ty) k0 k1 k2
theorem z6d (e:SB [] H H'):∀ {vs:List V} {ds:List PyData},TgAll K H vs ds->TgAll K H' vs ds
 | _,_,.nil=>.nil
 | _,_,.cons h t=>.cons (z25 e h) (z6d e t)
end
theorem TgAll.length:∀ {vs:List V} {ds:List PyData},TgAll K H vs ds->vs.length=ds.length
 | _,_,.nil=>rfl
 | _,_,.cons _ t=>by rw [List.length_cons,List.length_cons,TgAll.length t]
theorem TgAll.get:∀ {vs:List V} {ds:List PyData} {i:Nat} {v:V},TgAll K H vs ds->vs[i]?=some v->∃ d,ds[i]?=some d/\Tg K H v d
 | _,_,_,_,.nil,e=>by simp at e
 | _,_,0,_,.cons h t,e=>by simp at e; subst e; exact ⟨_,rfl,h⟩
 | _,_,i+1,v,.cons h t,e=>by
  obtain ⟨d,h1,h2⟩:=TgAll.get (i:=i) (v:=v) t (by simpa using e)
  exact ⟨d,by simpa using h1,h2⟩
theorem Tg.ty {v:V} {d:PyData} (h:Tg K H v d):∃ n b,TyX K H v (.type n)/\kitB n "tuple"=some b/\(b=true->∃ a xs ds,v=.ref a/\d=.tuple ds/\SqT K H a xs/\TgAll K H xs ds)/\(b=false->∀ ds,d ≠ .tuple ds):=by
 cases h with
 | int i=>exact ⟨"int",false,.base (.int i),by decide +kernel,fun z=>(nomatch z),fun _ ds z=>nomatch z⟩
 | str z hz=>exact ⟨"str",false,.base (.str z),by decide +kernel,fun z=>(nomatch z),fun _ ds z=>nomatch z⟩
 | tup hs ha=>exact ⟨"tuple",true,(z2y hs),by decide +kernel,fun _=>⟨_,_,_,rfl,rfl,hs,ha⟩,fun z=>(nomatch z)⟩
 | oth ty k1 _ k2=>exact ⟨_,false,ty,k1,fun z=>(nomatch z),fun _ ds z=>nomatch z⟩
theorem Tg.txt {v:V} {d:PyData} (h:Tg K H v d):∃ n b,TyX K H v (.type n)/\kitB n "str"=some b/\(b=true->∃ z,v=.str z/\d=.str z/\z.length<=1000)/\(b=false->∀ z,d ≠ .str z):=by
 cases h with
 | int i=>exact ⟨"int",false,.base (.int i),by decide +kernel,fun z=>(nomatch z),fun _ ds z=>nomatch z⟩
 | str z hz=>exact ⟨"str",true,.base (.str z),by decide +kernel,fun _=>⟨z,rfl,rfl,hz⟩,fun z=>(nomatch z)⟩
 | tup hs ha=>exact ⟨"tuple",false,(z2y hs),by decide +kernel,fun z=>(nomatch z),fun _ ds z=>nomatch z⟩
 | oth ty _ k1 k2=>exact ⟨_,false,ty,k1,fun z=>(nomatch z),fun _ ds z=>nomatch z⟩
end
instance (z:Str):Decidable (z01 z):=inferInstanceAs (Decidable (_/\_/\_))
def z1d:PyData->Bool
 | .str z=>decide (z01 z)
 | _=>false
mutual
def z08:PyData->Bool
 | .tuple ds=>grPs ds&&z31 (ds.map exp0)
 | _=>false
def grPs:List PyData->Bool
 | []=>true
 | d::ds=>grP d&&grPs ds
def grP:PyData->Bool
 | .tuple ds=>grP2 ds
 | _=>false
def grP2:List PyData->Bool
 | []=>false
 | t::r=>z0l t&&z11 r
def z0l:PyData->Bool
 | .tuple ds=>trD2 ds
 | _=>false
def trD2:List PyData->Bool
 | []=>false
 | k::r=>z1d k&&trD3 r
def trD3:List PyData->Bool
 | []=>false
 | g::r=>z08 g&&r.isEmpty
end
theorem zbn {r:List PyData} (h:z11 r=true):∃ i,r=[.int i]/\(1:Int)<=i:=by
 match r,h with
 | [],h=>simp [z11] at h
 | .int i::[],h=>simp [z11,z0w] at h; exact ⟨i,rfl,h⟩
 | .int i::_::_,h=>simp [z11] at h
 | .none::_,h=>simp [z11,z0w] at h
 | .bool _::_,h=>simp [z11,z0w] at h
 | .str _::_,h=>simp [z11,z0w] at h
 | .list _::_,h=>simp [z11,z0w] at h
 | .dict _::_,h=>simp [z11,z0w] at h
 | .tuple _::_,h=>simp [z11,z0w] at h
theorem z4h {d:PyData} (h:z1d d=true):∃ z,d=.str z/\z01 z:=by
 cases d with
 | str z=>exact ⟨z,rfl,of_decide_eq_true h⟩
 | _=>simp [z1d] at h
mutual
theorem z4t:∀ d:PyData,z08 d=true->∃ g:Gr,d=g.enc
 | .tuple ds,h=>by
  rw [z08,Bool.and_eq_true] at h
  obtain ⟨g,e⟩:=z6g ds h.1
  exact ⟨g,by rw [e]; rfl⟩
 | .none,h=>by simp [z08] at h
 | .bool _,h=>by simp [z08] at h
 | .int _,h=>by simp [z08] at h
 | .str _,h=>by simp [z08] at h
 | .list _,h=>by simp [z08] at h
 | .dict _,h=>by simp [z08] at h
theorem z6g:∀ ds:List PyData,grPs ds=true->∃ g:Gr,ds=g.encs
 | [],_=>⟨.nil,rfl⟩
 | d::ds,h=>by
  rw [grPs,Bool.and_eq_true] at h
  obtain ⟨r,er⟩:=z6g ds h.2
  obtain ⟨t,i,ed,he⟩:=z7c d h.1
  exact ⟨.cons t.1 t.2 i r,by rw [er,ed]; rfl⟩
theorem z7c:∀ d:PyData,grP d=true->∃ (t:Tr) (i:Int),d=.tuple [Gr.tEnc t,.int i]/\(1:Int)<=i
 | .tuple ds,h=>by
  rw [grP] at h
  obtain ⟨e,i,ed,he⟩:=zcx ds h
  exact ⟨e,i,by rw [ed],he⟩
 | .none,h=>by simp [grP] at h
 | .bool _,h=>by simp [grP] at h
 | .int _,h=>by simp [grP] at h
 | .str _,h=>by simp [grP] at h
 | .list _,h=>by simp [grP] at h
 | .dict _,h=>by simp [grP] at h
theorem zcx:∀ ds:List PyData,grP2 ds=true->∃ (t:Tr) (i:Int),ds=[Gr.tEnc t,.int i]/\(1:Int)<=i
 | [],h=>by simp [grP2] at h
 | d::r,h=>by
  rw [grP2,Bool.and_eq_true] at h
  obtain ⟨t,et⟩:=z8q d h.1
  obtain ⟨i,er,hi⟩:=zbn h.2
  exact ⟨t,i,by rw [et,er],hi⟩
theorem z8q:∀ d:PyData,z0l d=true->∃ t:Tr,d=Gr.tEnc t
 | .tuple ds,h=>by
  rw [z0l] at h
  obtain ⟨t,et⟩:=zcv ds h
  exact ⟨t,by rw [et]; rfl⟩
 | .none,h=>by simp [z0l] at h
 | .bool _,h=>by simp [z0l] at h
 | .int _,h=>by simp [z0l] at h
 | .str _,h=>by simp [z0l] at h
 | .list _,h=>by simp [z0l] at h
 | .dict _,h=>by simp [z0l] at h
theorem zcv:∀ ds:List PyData,trD2 ds=true->∃ t:Tr,ds=[.str t.1,t.2.enc]
 | [],h=>by simp [trD2] at h
 | d::r,h=>by
  rw [trD2,Bool.and_eq_true] at h
  obtain ⟨z,ez,_⟩:=z4h h.1
  obtain ⟨g,eg⟩:=zd6 r h.2
  exact ⟨(z,g),by rw [ez,eg]⟩
theorem zd6:∀ ds:List PyData,trD3 ds=true->∃ g:Gr,ds=[g.enc]
 | [],h=>by simp [trD3] at h
 | d::r,h=>by
  rw [trD3,Bool.and_eq_true] at h
  obtain ⟨g,eg⟩:=z4t d h.1
  have:r=[]:=by cases r with | nil=>rfl | cons _ _=>simp at h
  exact ⟨g,by rw [eg,this]⟩
end
section
variable {K:PySem.W.Frag} {H:Hp}
theorem zaa {C:Int}:∀ (g:Gr) {vs:List V},g.Ok C->DpAll K H vs g.encs->TgAll K H vs g.encs
 | .nil,vs,_,h=>by cases h; exact .nil
 | .cons k g m r,vs,ho,h=>by
  cases h with
  | cons h1 h2 =>
   refine .cons ?_ (zaa r ho.2.2.2.2.1 h2)
   cases h1 with
   | tup hs ha =>
    cases ha with
    | cons h3 h4 =>
     cases h4 with
     | cons h5 h6 =>
      cases h6; cases h5
      refine .tup hs (.cons ?_ (.cons (.int _) .nil))
      cases h3 with
      | tup hs2 hb =>
       cases hb with
       | cons h7 h8 =>
        cases h8 with
        | cons h9 h10 =>
         cases h10; cases h7
         cases h9 with
         | tup hs3 hc=>exact .tup hs2 (.cons (.str _ (by have:=ho.1.2.1; simp [Str.length]; simp at this; omega)) (.cons (.tup hs3 (zaa g ho.2.1 hc)) .nil))
theorem z3v:∀ (g:Gr) {vs:List V},TgAll K H vs g.encs->DpAll K H vs g.encs
 | .nil,vs,h=>by cases h; exact .nil
 | .cons k g m r,vs,h=>by
  cases h with
  | cons h1 h2 =>
   refine .cons ?_ (z3v r h2)
   cases h1 with
   | tup hs ha =>
    cases ha with
    | cons h3 h4 =>
     cases h4 with
     | cons h5 h6 =>
      cases h6; cases h5
      refine .tup hs (.cons ?_ (.cons (.int _) .nil))
      cases h3 with
      | tup hs2 hb =>
       cases hb with
       | cons h7 h8 =>
        cases h8 with
        | cons h9 h10 =>
         cases h10; cases h7
         cases h9 with
         | tup hs3 hc=>exact .tup hs2 (.cons (.str _) (.cons (.tup hs3 (z3v g hc)) .nil))
end
def z71 (K:PySem.W.Frag):Sp:=fun vs H Q _=>∃ (v:V) (d:PyData),vs=[v]/\Tg K H v d/\∀ H',SB [] H H'->Q (.bl (z1d d)) H'
def z1u (K:PySem.W.Frag) (n:Nat):Sp:=fun vs H Q _=>∃ (v:V) (d:PyData),vs=[v]/\Tg K H v d/\d.depth < n/\d.depth<=80/\wide d<=1000/\∀ H',SB [] H H'->Q (.bl (z0l d)) H'
def z1m (K:PySem.W.Frag) (n:Nat):Sp:=fun vs H Q _=>∃ (v:V) (d:PyData),vs=[v]/\Tg K H v d/\d.depth < n/\d.depth<=80/\wide d<=1000/\∀ H',SB [] H H'->Q (.bl (z08 d)) H'
def z1z (K:PySem.W.Frag) (tp:Bool) (n:Nat):Sp:=fun vs H Q _=>∃ (a:Addr) (xs:List V) (ds:List PyData),vs=[.ref a]/\(if tp=true then SqT K H a xs else SqL K H a xs)/\TgAll K H xs ds/\PyData.depthAll ds < n/\PyData.depthAll ds<=79/\wide (.tuple ds)<=1000/\∀ H',SB [] H H'->Q (.bl (grPs ds)) H'
/-- the run of signs from a place on -/
def z7d (K:PySem.W.Frag):Sp:=fun vs H Q _=>∃ (z y:Str) (k:Nat),vs=[.str z,.int (k:Int),.str y]/\z.length<=100000/\k<=z.length/\∀ e:Nat,k<=e->e<=z.length->(∀ j c,k<=j->j < e->z.cps.toList[j]?=some c->c ∈ y.cps.toList)->(∀ c,z.cps.toList[e]?=some c->c ∉ y.cps.toList)->Q (.str (cutS z (some (k:Int)) (some (e:Int)))) H
theorem za5 (c:Nat):c ∈ abc.cps.toList ↔ 97<=c/\c<=122:=by
 have e:abc.cps.toList=(List.range 26).map (·+97):=by decide +kernel
 rw [e,List.mem_map]
 constructor
 ·rintro ⟨x,hx,rfl⟩
  have:=List.mem_range.mp hx
  omega
 ·intro h
  exact ⟨c-97,List.mem_range.mpr (by omega),by omega⟩
theorem z4u (z:Str):z.cps.toList.length=z.length:=by simp [Str.length]
theorem cut0 (z:Str) {e:Nat} (he:e<=z.length):(cutS z (some ((0:Nat):Int)) (some (e:Int))).cps.toList=z.cps.toList.take e:=by
 unfold cutS
 rw [HT.sIx_nat,HT.sIx_nat]
 simp [Nat.min_eq_left he]
theorem zcm {z:Str} {e:Nat} (h1:1<=z.length) (h8:z.length<=8) (he:e<=z.length) (hin:∀ j c,0<=j->j < e->z.cps.toList[j]?=some c->c ∈ abc.cps.toList) (hout:∀ c,z.cps.toList[e]?=some c->c ∉ abc.cps.toList) :
  decide (V.str (cutS z (some ((0:Nat):Int)) (some (e:Int)))=V.str z)=z1d (.str z):=by
 have hl:=z4u z
 rw [Bool.eq_iff_iff,decide_eq_true_iff,z1d,decide_eq_true_iff]
 constructor
 ·intro h
  injection h with h
  have h2:=cut0 z he
  rw [h] at h2
  have h3:z.cps.toList.length=min e z.cps.toList.length:=by
   have:=congrArg List.length h2
   rwa [List.length_take] at this
  refine ⟨by omega,by omega,fun c hc=>?_⟩
  obtain ⟨j,hj⟩:=List.mem_iff_getElem?.mp hc
  have hj2:=(List.getElem?_eq_some_iff.mp hj).1
  exact (za5 c).mp (hin j c (Nat.zero_le _) (by omega) hj)
 ·rintro ⟨_,_,hall⟩
  have e1:e=z.length:=by
   rcases Nat.lt_or_ge e z.length with h | h
   ·obtain ⟨c,hc⟩:∃ c,z.cps.toList[e]?=some c:=⟨_,List.getElem?_eq_getElem (by omega)⟩
    exact absurd ((za5 c).mpr (hall c (List.mem_of_getElem? hc))) (hout c hc)
   ·omega
  have h2:=cut0 z he
  rw [e1,<- hl,List.take_length] at h2
  congr 1
  have h3:∀ a b:Str,a.cps.toList=b.cps.toList->a=b:=by
   intro a b hab
   cases a; cases b
   congr 1
   exact Array.toList_inj.mp hab
  rw [e1,<- hl]
  exact h3 _ _ h2
theorem z8o {z:Str} (h:¬ (1<=z.length/\z.length<=8)):z1d (.str z)=false:=by
 have hl:=z4u z
 rw [z1d]
 exact decide_eq_false fun ⟨h1,h2,_⟩=>h ⟨by omega,by omega⟩
theorem z93 {z:Str} (h:z01 z):z1d (.str z)=true:=decide_eq_true h
theorem zcy {t:Tr} (h0:z01 t.1) (h:z08 t.2.enc=true):z0l (Gr.tEnc t)=true:=by
 rw [Gr.tEnc,z0l,trD2,trD3,z93 h0,h]; rfl
theorem zgn {t:Tr} {m:Int} (h0:z01 t.1) (h:z08 t.2.enc=true) (hm:1<=m):grP (Gr.pEnc (t,m))=true:=by
 show grP (.tuple [Gr.tEnc t,.int m])=true
 rw [grP,grP2,z11,zcy h0 h]
 simp [z0w,hm]
theorem z2r {C:Int}:∀ {g:Gr},g.Ok C->z08 g.enc=true
 | .nil,_=>by decide +kernel
 | .cons k g m r,⟨h0,h1,h2,h3,h4,h5⟩=>by
  have a1:=z2r h1
  have a2:=z2r h4
  rw [Gr.enc,z08,Bool.and_eq_true] at a2
  have hp:grP (Gr.pEnc ((k,g),m))=true:=zgn h0 a1 h2
  have e:(Gr.cons k g m r).encs=Gr.pEnc ((k,g),m)::r.encs:=rfl
  rw [Gr.enc,z08,e,grPs,hp,a2.1,Bool.true_and,Bool.true_and,List.map_cons]
  cases r with
  | nil=>rfl
  | cons k2 g2 m2 r2 =>
   have hlt:dataLt (Gr.tEnc (k,g)) (Gr.tEnc (k2,g2))=true:=h5 ((k2,g2),m2) (mcs ..)
   have e2:(Gr.cons k2 g2 m2 r2).encs=Gr.pEnc ((k2,g2),m2)::r2.encs:=rfl
   have a3:=a2.2
   rw [e2,List.map_cons] at a3 ⊢
   show (dataLt (Gr.tEnc (k,g)) (Gr.tEnc (k2,g2))::ltsD _).all id=true
   rw [List.all_cons,show id (dataLt (Gr.tEnc (k,g)) (Gr.tEnc (k2,g2)))=true from hlt,Bool.true_and]
   exact a3
theorem z3u:∀ g:Gr,z16 g.encs<=2+g.parts/\g.encs.length<=g.parts
 | .nil=>⟨by show z16 []<=_; rw [z16]; omega,Nat.le_refl _⟩
 | .cons k g m r=>by
  obtain ⟨h1,h2⟩:=z3u g
  obtain ⟨h3,h4⟩:=z3u r
  have e:(Gr.cons k g m r).encs=Gr.pEnc ((k,g),m)::r.encs:=rfl
  have e2:wide (Gr.pEnc ((k,g),m))<=2+g.parts:=by
   show wide (.tuple [.tuple [.str k,.tuple g.encs],.int m])<=_
   simp only [wide,z16,List.length_cons,List.length_nil]
   omega
  rw [e,z16,List.length_cons]
  show _<=2+(1+g.parts+r.parts)/\_<=1+g.parts+r.parts
  omega
section
variable {K:PySem.W.Frag} {H:Hp} {C:Int}
theorem z95 {g:Gr} {v:V} (ho:g.Ok C) (h:GA K H v g):Tg K H v g.enc:=by
 cases (h:Dp K H v (.tuple g.encs)) with
 | tup hs ha=>exact .tup hs (zaa g ho ha)
theorem zaw {z:Str} (h:z01 z):z.length<=1000:=by
 have:=h.2.1
 rw [z4u] at this
 omega
end
theorem z6v {γ:Type} [DecidableEq γ] (acc:List (γ × Int)) (p:γ × Int):z02 acc p ≠ []:=by
 rcases List.eq_nil_or_concat acc with h | ⟨as,q,h⟩
 ·subst h; rw [z0p]; simp
 ·rw [List.concat_eq_append] at h
  subst h
  rw [z06]
  split <;> simp
theorem zfl {γ:Type} [DecidableEq γ] {bs:List (γ × Int)} (h:bs ≠ []):jn bs ≠ []:=by
 have key:∀ (bs acc:List (γ × Int)),acc ≠ []->bs.foldl z02 acc ≠ []:=by
  intro bs
  induction bs with
  | nil=>intro acc h; exact h
  | cons p r ih=>intro acc _; exact ih _ (z6v acc p)
 cases bs with
 | nil=>exact absurd rfl h
 | cons p r=>exact key r _ (z6v [] p)
theorem Gr.tidy_full {bs:List (Tr × Int)} (h:bs ≠ []):Gr.tidy bs ≠ .nil:=fun z=>by
 have e:(Gr.tidy bs).ps=[]:=by rw [z]; rfl
 rw [Gr.tidy,Gr.ps_ofPs,tdy] at e
 refine zfl (fun z2=>h ?_) e
 have:=(z0t (enc:=Gr.pEnc) bs).length_eq
 rw [z2] at this
 exact List.length_eq_zero_iff.mp this.symm
section
variable {K:PySem.W.Frag} {H H3 H4:Hp} {p0 nm S:Addr} {ks:List Str}
theorem Hd.other (h:Hd K H H3 p0 nm ks) (s:SB [S] H3 H4) (n:H S=none) (n1:p0 ≠ S) (n2:nm ≠ S):Hd K H H4 p0 nm ks:=by
 refine ⟨h.hp.keep s (by simpa using n1),s.keep _ _ h.hnm (by simpa using n2),h.k1,h.k8,h.kn,h.ne,?_,h.np⟩
 have h1:SB [S,p0] H H3:=h.sb.mono fun b hb=>mcm _ hb
 have h2:SB [S,p0] H3 H4:=s.mono fun b hb=>by have:b=S:=by simpa using hb
                                              subst this; simp
 exact (h1.trans h2).drop n
end
/-- a list that stands is kept where another is changed -/
theorem SB.lst {H H':Hp} {ps:List Addr} {D:Addr} {us:List V} (s:SB ps H H') (h:H D=some (.lst us)) (n:D ∉ ps):H' D=some (.lst us):=s.keep _ _ h n
theorem TgAll.append {K:PySem.W.Frag} {H:Hp}:∀ {xs ys:List V} {ds es:List PyData},TgAll K H xs ds->TgAll K H ys es->TgAll K H (xs++ys) (ds++es)
 | _,_,_,_,.nil,h=>h
 | _,_,_,_,.cons a b,h=>.cons a (TgAll.append b h)
theorem SB.setD {H:Hp} {p:Addr} {kvs:List (Key × V)} {ps:List Addr} (h:H p=some (.dK kvs)) (hp:p ∈ ps) (o:HO):SB ps H (upd H p o):=by
 refine ⟨fun b u e n=>?_,fun b u e=>?_,fun b v u e=>?_,fun b e=>?_⟩
 ·rw [upd_ne (fun (z:b=p)=>n (by rw [z]; exact hp))]; exact e
 ·rw [upd_ne (fun (z:b=p)=>by subst z; rw [h] at e; cases e)]; exact e
 ·rw [upd_ne (fun (z:b=p)=>by subst z; rw [h] at e; cases e)]; exact e
 ·by_cases q:b=p
  ·subst q; rw [upd_same] at e; cases e
  ·rw [upd_ne q] at e; exact e
namespace Lad
def isN (l:Lad):Bool:=l.ps.all fun p=>decide (p.1=.nil)
def over1 (l:Lad):Bool:=(Lad.num 1).lt l
def sortT (l:Lad):Str:=if l.isN=true then "number" else if (l.ps.any fun p=>p.1.over1)=false then "pair" else if (l.ps.all fun p=>p.1.isN)=true then "power" else "tower"
end Lad
abbrev PG:=Pl × Gr
/-- the grove that is held at a place; all of it at the empty one -/
def gAt:Gr->Pl->Option Gr
 | g,[]=>some g
 | g,n::r=>(g.ps[n]?).bind fun p=>gAt p.1.2 r
/-- a place of a tree -/
def vp (g:Gr) (p:Pl):Prop:=∃ pre n h,p=pre++[n]/\gAt g pre=some h/\n < h.ps.length
open TL (tl)
def numT (m:Int):List Nat:=if m=1 then [] else TL.numL m.toNat++[32]
namespace Gr
def body:Gr->List Nat
 | .nil=>[]
 | .cons k g m r=>numT m++(tl k++((if g=.nil then [] else 123::(g.body++[125]))++(if r=.nil then [] else 44::32::r.body)))
def held (g:Gr):List Nat:=if g=.nil then [] else 123::(g.body++[125])
def more (r:Gr):List Nat:=if r=.nil then [] else 44::32::r.body
def text (g:Gr):List Nat:=if g=.nil then [45] else g.body
theorem body_cons (k:Str) (g:Gr) (m:Int) (r:Gr):(Gr.cons k g m r).body=numT m++(tl k++(g.held++r.more)):=rfl
theorem text_cons (k:Str) (g:Gr) (m:Int) (r:Gr):(Gr.cons k g m r).text=(Gr.cons k g m r).body:=if_neg (fun z=>nomatch z)
end Gr
theorem zcw {m:Int} {C:Nat} (hC:0 < C) (h0:0<=m) (h:m < 10 ^ C):(numT m).length<=C+1:=by
 unfold numT
 split
 ·simp
 ·obtain ⟨n,rfl⟩:∃ n:Nat,m=(n:Int):=⟨m.toNat,by omega⟩
  have h':n < 10 ^ C:=by exact_mod_cast h
  have:=TL.numL_len hC h'
  rw [List.length_append,Int.toNat_natCast]; simp; omega
namespace Gr
theorem body_len {C:Nat} (hC:0 < C):∀ {g:Gr},g.Ok (10 ^ C)->g.body.length<=(C+13)*g.parts
 | .nil,_=>Nat.zero_le _
 | .cons k g m r,⟨h0,h1,h2,h3,h4,_⟩=>by
  have a:=body_len hC h1
  have b:=body_len hC h4
  have c:=zcw hC (by omega) h3
  have d:=h0.2.1
  have e1:g.held.length<=(C+13)*g.parts+2:=by unfold held; split <;> simp <;> omega
  have e2:r.more.length<=(C+13)*r.parts+2:=by unfold more; split <;> simp <;> omega
  rw [body_cons]
  simp only [List.length_append,parts]
  have e3:(C+13)*(1+g.parts+r.parts)=(C+13)+(C+13)*g.parts+(C+13)*r.parts:=by rw [Nat.mul_add,Nat.mul_add,Nat.mul_one]
  have d':(tl k).length<=8:=d
  omega
theorem text_len {C:Nat} (hC:0 < C) {g:Gr} (h:g.Ok (10 ^ C)):g.text.length<=(C+13)*g.parts+1:=by
 have:=body_len hC h
 unfold text
 split
 ·simp
 ·omega
end Gr
def z2a (c:Nat):Bool:=decide (48<=c/\c<=57)
def z1s (c:Nat):Bool:=decide (97<=c/\c<=122)
abbrev Rd (α:Type):=List Nat->Option (α × List Nat)
def z3x (rdT:Rd Tr):Rd (Tr × Int):=fun l =>
 if l.takeWhile z2a=[] then (rdT l).map fun x=>((x.1,1),x.2)
 else if (l.takeWhile z2a).length > 60\/(l.dropWhile z2a).head? ≠ some 32 then none
 else (rdT (l.dropWhile z2a).tail).map fun x=>((x.1,(NumText.digitsVal (l.takeWhile z2a):Int)),x.2)
def z1t (rdP:Rd (Tr × Int)):Nat->Rd (List (Tr × Int))
 | 0,l=>some ([],l)
 | f+1,l=>if l.take 2=[44,32] then (rdP (l.drop 2)).bind fun x=>(z1t rdP f x.2).map fun y=>(x.1::y.1,y.2) else some ([],l)
def z20 (rdP:Rd (Tr × Int)):Rd (List (Tr × Int)):=fun l=>(rdP l).bind fun x=>(z1t rdP 100000 x.2).map fun y=>(x.1::y.1,y.2)
def z26:Nat->Rd Tr
 | 0,l=>if (l.dropWhile z1s).head? ≠ some 123 then some ((⟨(l.takeWhile z1s).toArray⟩,.nil),l.dropWhile z1s) else none
 | n+1,l=>if (l.dropWhile z1s).head? ≠ some 123 then some ((⟨(l.takeWhile z1s).toArray⟩,.nil),l.dropWhile z1s) else
   (z20 (z3x (z26 n)) (l.dropWhile z1s).tail).bind fun x=>if x.2.head?=some 125 then some ((⟨(l.takeWhile z1s).toArray⟩,Gr.ofPs x.1),x.2.tail) else none
abbrev z18 (n:Nat):Rd (Tr × Int):=z3x (z26 n)
theorem z1i {p:Nat->Bool}:∀ {as bs:List Nat},(∀ a ∈ as,p a=true)->(∀ b,bs.head?=some b->p b=false)->(as++bs).takeWhile p=as/\(as++bs).dropWhile p=bs
 | [],bs,_,hb=>by
  cases bs with
  | nil=>exact ⟨rfl,rfl⟩
  | cons b r =>
   have:=hb b rfl
   exact ⟨by simp [List.takeWhile,this],by simp [List.dropWhile,this]⟩
 | a::as,bs,ha,hb=>by
  obtain ⟨h1,h2⟩:=z1i (fun x hx=>ha x (mcm _ hx)) hb
  have:=ha a (mcs ..)
  exact ⟨by rw [List.cons_append,List.takeWhile_cons,if_pos this,h1],by rw [List.cons_append,List.dropWhile_cons,if_pos this,h2]⟩
theorem z7o {k:Str} (h:z01 k):∀ c ∈ tl k,z1s c=true:=fun c hc=>decide_eq_true (h.2.2 c hc)
theorem z7q {k:Str} (h:z01 k) (r:List Nat):∃ c s,tl k++r=c::s/\97<=c/\c<=122:=by
 cases e:tl k with
 | nil=>have:=h.1; rw [show k.cps.toList=tl k from rfl,e] at this; simp at this
 | cons c s=>exact ⟨c,s++r,rfl,h.2.2 c (by rw [show k.cps.toList=tl k from rfl,e]; simp)⟩
/-- what may stand behind a pair -/
def Stop (l:List Nat):Prop:=∀ c,l.head?=some c->c=44\/c=125
theorem z80 {rdT:Rd Tr} {t:Tr} {m:Int} {l rest:List Nat} (hn:z01 t.1) (h1:1<=m) (hB:m < 10 ^ 60) (h:rdT (tl t.1++l)=some (t,rest)):z3x rdT (numT m++(tl t.1++l))=some ((t,m),rest):=by
 obtain ⟨c,s,ec,hc1,hc2⟩:=z7q hn l
 unfold z3x numT
 by_cases hm:m=1
 ·subst hm
  rw [if_pos rfl,List.nil_append]
  have e1:(tl t.1++l).takeWhile z2a=[]:=by
   rw [ec,List.takeWhile_cons,if_neg]
   simp [z2a]; omega
  rw [if_pos e1,h]; rfl
 ·rw [if_neg hm]
  obtain ⟨n,rfl⟩:∃ n:Nat,m=(n:Int):=⟨m.toNat,by omega⟩
  rw [Int.toNat_natCast,List.append_assoc]
  have hd:∀ a ∈ TL.numL n,z2a a=true:=fun a ha=>by
   have:=TL.numL_digits n a ha
   exact decide_eq_true (by omega)
  obtain ⟨e1,e2⟩:=z1i (p:=z2a) (as:=TL.numL n) (bs:=[32]++(tl t.1++l)) hd (fun b hb=>by
   have:(32:Nat)=b:=by simpa using hb
   subst this; rfl)
  rw [e1,e2,if_neg (TL.numL_ne n)]
  have hl:(TL.numL n).length<=60:=TL.numL_len (by decide) (by exact_mod_cast hB)
  rw [if_neg (by simp; omega)]
  show (rdT (tl t.1++l)).map _=_
  rw [h,TL.numL_val]; rfl
theorem z88 {n:Nat} {k:Str} {rest:List Nat} (hn:z01 k) (hs:Stop rest):z26 n (tl k++rest)=some ((k,.nil),rest):=by
 obtain ⟨e1,e2⟩:=z1i (p:=z1s) (as:=tl k) (bs:=rest) (z7o hn) (fun b hb=>by
  rcases hs b hb with h | h <;> subst h <;> rfl)
 have hh:rest.head? ≠ some 123:=fun h=>by rcases hs 123 h with e | e <;> cases e
 cases n with
 | zero=>unfold z26; rw [e1,e2,if_pos hh,TL.mk_tl]
 | succ n=>unfold z26; rw [e1,e2,if_pos hh,TL.mk_tl]
theorem z8w {n:Nat} {k:Str} {g:Gr} {rest:List Nat} (hn:z01 k) (hg:g ≠ .nil) (h:z20 (z18 n) (g.body++([125]++rest))=some (g.ps,[125]++rest)):z26 (n+1) (tl k++(g.held++rest))=some ((k,g),rest):=by
 have e0:g.held++rest=123::(g.body++([125]++rest)):=by
  unfold Gr.held; rw [if_neg hg]; simp
 rw [e0]
 obtain ⟨e1,e2⟩:=z1i (p:=z1s) (as:=tl k) (bs:=123::(g.body++([125]++rest))) (z7o hn) (fun b hb=>by
  have:(123:Nat)=b:=by simpa using hb
  subst this; rfl)
 unfold z26
 rw [e1,e2,if_neg (by simp)]
 show (z20 (z18 n) (g.body++([125]++rest))).bind _=_
 rw [h]
 show (if ([125]++rest).head?=some 125 then some (((⟨(tl k).toArray⟩:Str),Gr.ofPs g.ps),rest) else none)=_
 rw [TL.mk_tl,Gr.ofPs_ps]
 rfl
theorem Stop.nil:Stop []:=fun c h=>by cases h
theorem Stop.comma (r:List Nat):Stop (44::r):=fun c h=>by have:(44:Nat)=c:=by simpa using h
                                                          exact .inl this.symm
/-- what may stand behind pairs -/
def End (l:List Nat):Prop:=∀ c,l.head?=some c->c=125
theorem End.stop {l:List Nat} (h:End l):Stop l:=fun c hc=>.inr (h c hc)
theorem z4d (r:Gr) {rest:List Nat} (he:End rest):Stop (r.more++rest):=by
 unfold Gr.more
 split
 ·exact he.stop
 ·exact Stop.comma _
theorem zc1 {rdP:Rd (Tr × Int)} {rest:List Nat} (he:End rest) (f:Nat):z1t rdP f rest=some ([],rest):=by
 cases f with
 | zero=>rfl
 | succ f =>
  show (if rest.take 2=[44,32] then _ else _)=_
  rw [if_neg]
  intro z
  cases rest with
  | nil=>simp at z
  | cons c s =>
   have hc:=he c rfl
   subst hc
   simp at z
mutual
theorem z2u:∀ (r:Gr),r.Ok (10 ^ 60)->r.parts<=100000->∀ (n f:Nat),r.ps.length<=f->r.deep<=n+1->∀ rest,End rest->z1t (z18 n) f (r.more++rest)=some (r.ps,rest)
 | .nil,_,_,n,f,_,_,rest,he=>by
  show z1t (z18 n) f rest=some ([],rest)
  exact zc1 he f
 | .cons k g m r,ho,hp,n,f,hf,hd,rest,he=>by
  have hp2:r.parts<=100000:=by have:1+g.parts+r.parts<=100000:=hp; omega
  cases f with
  | zero=>simp [Gr.ps] at hf
  | succ f =>
   have hd2:r.deep<=n+1:=by have:max (1+g.deep) r.deep<=n+1:=hd; omega
   have hf':r.ps.length<=f:=by have:r.ps.length+1<=f+1:=hf; omega
   have e:(Gr.cons k g m r).more++rest=44::32::(numT m++(tl k++(g.held++(r.more++rest)))):=by
    unfold Gr.more; rw [if_neg (fun z=>nomatch z),Gr.body_cons]
    simp [Gr.more]
   rw [e]
   show (if (44::32::(numT m++(tl k++(g.held++(r.more++rest))))).take 2=[44,32] then (z18 n (numT m++(tl k++(g.held++(r.more++rest))))).bind (fun x=>(z1t (z18 n) f x.2).map fun y=>(x.1::y.1,y.2)) else _)=_
   rw [if_pos (show (44::32::(numT m++(tl k++(g.held++(r.more++rest))))).take 2=[44,32] from rfl),z2v k g m r ho hp n hd (r.more++rest) (z4d r he)]
   show (z1t (z18 n) f (r.more++rest)).map _=_
   rw [z2u r ho.2.2.2.2.1 hp2 n f hf' hd2 rest he]; rfl
theorem z2v:∀ (k:Str) (g:Gr) (m:Int) (r:Gr),(Gr.cons k g m r).Ok (10 ^ 60)->(Gr.cons k g m r).parts<=100000->∀ (n:Nat),(Gr.cons k g m r).deep<=n+1->∀ rest,Stop rest->z18 n (numT m++(tl k++(g.held++rest)))=some (((k,g),m),rest)
 | k,g,m,r,⟨h0,h1,h2,h3,h4,_⟩,hp,n,hd,rest,hs=>by
  have hp1:g.parts<=100000:=by have:1+g.parts+r.parts<=100000:=hp; omega
  have hd1:g.deep<=n:=by have:max (1+g.deep) r.deep<=n+1:=hd; omega
  refine z80 (t:=(k,g)) h0 h2 h3 ?_
  match g,h1,hd1,hp1 with
  | .nil,_,_,_ =>
   show z26 n (tl k++([]++rest))=_
   exact z88 h0 hs
  | .cons k2 g2 m2 r2,h1,hd1,hp1 =>
   match n,hd1 with
   | 0,hd1=>have:max (1+g2.deep) r2.deep<=0:=hd1; omega
   | n+1,hd1 =>
    refine z8w h0 (fun z=>nomatch z) ?_
    have e:(Gr.cons k2 g2 m2 r2).body++([125]++rest)=numT m2++(tl k2++(g2.held++(r2.more++([125]++rest)))):=by
     rw [Gr.body_cons]; simp
    have he:End ([125]++rest):=fun c hc=>by
     have:(125:Nat)=c:=by simpa using hc
     exact this.symm
    rw [e]
    unfold z20
    rw [z2v k2 g2 m2 r2 h1 hp1 n hd1 _ (z4d r2 he)]
    show (z1t (z18 n) 100000 (r2.more++([125]++rest))).map _=_
    have hd2:r2.deep<=n+1:=by have:max (1+g2.deep) r2.deep<=n+1:=hd1; omega
    have hp2:r2.parts<=100000:=by have:1+g2.parts+r2.parts<=100000:=hp1; omega
    rw [z2u r2 h1.2.2.2.2.1 hp2 n 100000 (Nat.le_trans r2.len_parts hp2) hd2 _ he]; rfl
end
theorem z92 {g:Gr} (ho:g.Ok (10 ^ 60)) (hp:g.parts<=100000) (hne:g ≠ .nil) {n:Nat} (hd:g.deep<=n+1) {rest:List Nat} (he:End rest):z20 (z18 n) (g.body++rest)=some (g.ps,rest):=by
 cases g with
 | nil=>exact absurd rfl hne
 | cons k g m r =>
  have e:(Gr.cons k g m r).body++rest=numT m++(tl k++(g.held++(r.more++rest))):=by rw [Gr.body_cons]; simp
  rw [e]
  unfold z20
  rw [z2v k g m r ho hp n hd _ (z4d r he)]
  show (z1t (z18 n) 100000 (r.more++rest)).map _=_
  have hd2:r.deep<=n+1:=by have:max (1+g.deep) r.deep<=n+1:=hd; omega
  have hp2:r.parts<=100000:=by have:1+g.parts+r.parts<=100000:=hp; omega
  rw [z2u r ho.2.2.2.2.1 hp2 n 100000 (Nat.le_trans r.len_parts hp2) hd2 _ he]; rfl
open TL (tl)
theorem deep_ofPs {n:Nat} {ps:List (Tr × Int)} (h:∀ p ∈ ps,p.1.2.deep<=n):(Gr.ofPs ps).deep<=n+1:=by
 refine Gr.deep_le fun p hp=>?_
 rw [Gr.ps_ofPs] at hp
 have:=h p hp; omega
/-- a text that shows a grove within the bounds -/
structure Shows (z:Str) (g:Gr):Prop where
 tx:tl z=g.text
 ok:g.Ok (10 ^ 60)
 parts:g.parts<=60
 deep:g.deep<=12
theorem z7u {g:Gr} (h:g.Ok (10 ^ 60)) (e:g.text=[45]):g=.nil:=by
 cases g with
 | nil=>rfl
 | cons k g m r =>
  rw [Gr.text_cons,Gr.body_cons] at e
  exfalso
  obtain ⟨c,s,ec,hc1,hc2⟩:=z7q h.1 (g.held++r.more)
  rw [ec] at e
  unfold numT at e
  split at e
  ·rw [List.nil_append] at e
   injection e with e1 e2
   omega
  ·have hd:=TL.numL_digits m.toNat
   have hne:=TL.numL_ne m.toNat
   cases hx:TL.numL m.toNat with
   | nil=>exact hne hx
   | cons a b =>
    rw [hx] at e hd
    injection e with e1 e2
    have:=hd a (mcs ..)
    omega
theorem Shows.len {z:Str} {g:Gr} (h:Shows z g):z.length<=4381:=by
 have:=Gr.text_len (C:=60) (by decide) h.ok
 rw [<- h.tx,<- TL.len_tl] at this
 have:=h.parts
 omega
theorem Shows.read {z:Str} {g:Gr} (h:Shows z g) (hne:g ≠ .nil):z20 (z18 12) (tl z)=some (g.ps,[]):=by
 have:=z92 h.ok (by have:=h.parts; omega) hne (n:=12) (by have:=h.deep; omega) (rest:=[]) (fun c hc=>by cases hc)
 rw [List.append_nil] at this
 rw [h.tx]
 unfold Gr.text
 rw [if_neg hne]; exact this
/-- the texts met so far,each once -/
def met (xs:List Str):Nat->List Str
 | 0=>[]
 | i+1=>if (met xs i).any (· == xs.getD i Str.empty)=true then met xs i else met xs i++[xs.getD i Str.empty]
theorem z6x (xs:List Str):∀ i,(met xs i).length<=i
 | 0=>Nat.le_refl _
 | i+1=>by
  have:=z6x xs i
  unfold met
  split
  ·omega
  ·rw [List.length_append]; simp; omega
theorem zfb (xs:List Str) (i:Nat) (k:Str):(met xs (i+1)).any (· == k)=((met xs i).any (· == k) || decide (k=xs.getD i Str.empty)):=by
 rw [met]
 by_cases e:k=xs.getD i Str.empty
 ·subst e
  split
  ·rename_i h; rw [h]; simp
  ·simp
 ·rw [decide_eq_false e,Bool.or_false]
  split
  ·rfl
  ·rw [List.any_append]
   have:([xs.getD i Str.empty].any (· == k))=false:=by
    simp only [List.any_cons,List.any_nil,Bool.or_false,beq_eq_false_iff_ne]
    exact fun z=>e z.symm
   rw [this,Bool.or_false]
theorem zfu (xs:List Str) (i:Nat):(met xs (i+1)).length=if (met xs i).any (· == xs.getD i Str.empty)=true then (met xs i).length else (met xs i).length+1:=by
 rw [met]; split <;> simp
abbrev SetOfS (P:Program) (w:World) (h:Heap) (a:Addr) (L:List Str):Prop:=h.SetOf (PySem.strKind P w) a (fun k=>L.any (· == k)) L.length
theorem SetOfS.keep {P:Program} {w:World} {h h':Heap} {a:Addr} {L:List Str} (S:SetOfS P w h a L) (k:∀ o,h.get? a=some o->h'.get? a=some o):SetOfS P w h' a L:=by
 obtain ⟨o,es,ep,t,ho,r⟩:=S; exact ⟨o,es,ep,t,k o ho,r⟩
section
variable {P:Program} {w:World} {A:Around}
theorem zc6 {R:Result->Shared->Prop} {I:Addr} {fp wr:List Addr} {G:Array GenState->Array GenState->Prop} {n:Nat} {Pv:Nat->Value->Prop} {St:Nat->Shared->Prop} (W:WalksS P w A.in1 I fp wr G n Pv St) (S:Addr) (hSf:S ∉ fp) (xs:List Str) (hn:n+1 < scanBound)
  (hval:∀ i v,Pv i v->∃ t,v=.str (xs.getD i Str.empty) t):∀ (k i:Nat) (s:Shared),k+i=n->St i s->SetOfS P w s.heap S (met xs i) ->
   (∀ s',Moved (S::wr) G s s'->SetOfS P w s'.heap S (met xs n)->R (.ok (.ret .none)) s')->codeAny (model P w) A (.builtin "set.update.loop" ⟨[.ref S,.ref I],[]⟩) R s:=by
 have out:S ∉ wr:=fun z=>hSf (W.sub _ z)
 have up:∀ b ∈ wr,b ∈ S::wr:=fun b z=>mcm _ z
 intro k
 induction k with
 | zero =>
  intro i s e st hS hR
  rw [Nat.zero_add] at e; subst e
  refine codeAny_builtin F.entry_set_update_loop (by
   rw [Around.under_plainId F.plain_set_update_loop _]
   show wpAny _ A.in1 (pyNext (.ref I) >>= _) _ _ s
   refine wpAny_bind (W.done s _ _ st fun s' hm=>?_)
   show wpAny _ A.in1 (ret Value.none) _ _ s'
   exact wpAny_pure (hR s' (hm.mono up) (hS.keep fun o e=>hm.heap S o out e)))
 | succ k ih =>
  intro i s e st hS hR
  have lt:i < n:=by omega
  refine codeAny_builtin F.entry_set_update_loop (by
   rw [Around.under_plainId F.plain_set_update_loop _]
   show wpAny _ A.in1 (pyNext (.ref I) >>= _) _ _ s
   refine wpAny_bind (W.item i s _ _ lt st fun v s' hP st' hm=>?_)
   obtain ⟨t,rfl⟩:=hval i v hP
   have hS':SetOfS P w s'.heap S (met xs i):=hS.keep fun o e=>hm.heap S o out e
   show wpAny _ A.in1 (holding [Value.str (xs.getD i Str.empty) t] (setAdd S (.str (xs.getD i Str.empty) t)) >>= _) _ _ s'
   refine wpAny_bind (wpAny_holding ?_)
   unfold setAdd
   refine wpAny_holding (wpAny_bind ((PySem.strKind P w).pyHash (k:=xs.getD i Str.empty) (PySem.Froz.is_str _ _) ?_))
   have room:(met xs i).length+1 < scanBound:=by have:=z6x xs i; omega
   refine wpAny_setAddHashed_of (knd:=PySem.strKind P w) (s:={ s' with toks:=s'.toks+1 }) (PySem.Froz.is_str _ _) rfl hS' room fun h' hsb hS2=>?_
   have hSi:SetOfS P w h' S (met xs (i+1)):=SetOf_congr hS2 (fun k'=>(zfb xs i k').symm) (zfu xs i).symm
   refine wpAny_pure ⟨plainId_quiet F.plain_set_update_loop _,ih (i+1) _ (by omega) (W.frame _ s' _ _ st' (Nat.le_succ _) fun b hb o e=>?_) hSi fun s'' hm'' hS''=>?_⟩
   ·rw [hsb.2 b fun z:b=S=>hSf (z ▸ hb)]; exact e
   ·refine hR s'' (Moved.trans W.gtrans ((hm.mono up).then_heap (Nat.le_succ _) fun b o hb e=>?_) hm'') hS''
    rw [hsb.2 b fun z:b=S=>hb (z ▸ mcs)]; exact e)
abbrev eo (led:Bool):Obj:={ cls:=.type "set",dict:=none,data:=.set #[] 0 (.fresh 0 0 led) }
set_option maxHeartbeats 8000000 in
theorem zbs {E:Value->Shared->Prop} {s:Shared} {l:Addr} {its:Array Value} {xs:List Str} {Q:Value->Shared->Prop} (hh:A.handled=none) (hl:s.heap.IsList l its) (hi:StrsAre its.toList xs) (hb:its.size+1 < scanBound)
  (h:∀ (h':Heap) (tk:Nat),SetOfS P w h' s.heap.objs.size (met xs its.size)->(∀ b o,b < s.heap.objs.size->s.heap.get? b=some o->h'.get? b=some o)->Q (.ref s.heap.objs.size) { s with heap:=h',toks:=tk }) :
  wpAny (model P w) A (call (.type "set") [.ref l]) Q E s:=by
 obtain ⟨c,tl',hmro⟩:=PySem.F.called_set.mro
 have k1:=PySem.F.called_set.made; have k2:=PySem.F.called_set.sub
 refine wpAny_call (codeAny_of_tree (by
  show wpAny _ _ (callAny (.type "set") _) _ _ _
  refine wpAny_pure ⟨Code.quiet_builtin _ (by decide +kernel),codeAny_builtin PySem.F.entry_type_call ?_⟩
  rw [Around.under_plain (weight_type_call_type "set" [.ref l] []) rfl]
  have k3:=PySem.F.called_set.notType; have k4:=PySem.F.called_set.canCreate; have k5:=PySem.F.typeCall_set_1 (.ref l)
  repeat (any_goals (first | assumption | wp_step))
  refine codeAny_mono (code_set_new_1 (.ref l) (E:=E) (Q₁:=fun ob z=>∃ led:Bool,ob=.ref s.heap.objs.size/\z={ s with heap:=s.heap.push (eo led) }) fun led=>⟨led,rfl,rfl⟩) fun r z hr=>?_
  cases r with
  | error e=>exact hr
  | ok fl =>
  cases fl with
  | ret ob =>
   obtain ⟨led,rfl,rfl⟩:=hr
   have at0:(s.heap.push (eo led)).get? s.heap.objs.size=some (eo led):=Heap.get?_push_size _ rfl
   have ty0:Shared.TypeIs { s with heap:=s.heap.push (eo led) } (.ref s.heap.objs.size) "set":=⟨_,at0,rfl⟩
   have k6:=PySem.F.called_set.init.lookup; have k7:=PySem.F.called_set.init.bind (.ref s.heap.objs.size)
   repeat (any_goals (first | assumption | wp_step))
   refine codeAny_mono (codeAny_call_builtin (R:=wants (fun r s₂=>r=.none/\∃ h' tk,s₂={ s with heap:=h',toks:=tk }/\SetOfS P w h' s.heap.objs.size (met xs its.size)/\(∀ b o,b < s.heap.objs.size->s.heap.get? b=some o->h'.get? b=some o)) E) PySem.F.called_set.init.plain PySem.F.entry_set_init (check_set_init_1 ty0 ?_)) fun r₂ s₂ hr₂=>?_
   ·obtain ⟨⟨oc,od,oda,osl⟩,hol,hcl,nl,hdl⟩:=hl
    simp only at hcl hdl
    subst hcl hdl
    have hol':(s.heap.push (eo led)).get? l=some ⟨.type "list",od,.seq its nl,osl⟩:=Heap.get?_push_of_some _ hol
    have k8:=PySem.F.sub_list_set; have k9:=PySem.F.sub_list_frozenset
    have k10:(Value.type "list" == Value.type "dict")=false:=by decide
    have isl:(s.heap.push (eo led)).IsList l its:=⟨_,hol',rfl,nl,rfl⟩
    unfold Builtin.«set.__init__» noKeywords Builtin.Frozenset.updateFrom
    generalize hPI:pyIter=PI
    wp_walk
    subst hPI
    refine wpAny_pyIter_list isl (wpAny_bind (wpAny_runValue ?_))
    have ltl:l < s.heap.objs.size:=Heap.lt_size hol
    have sz1:(s.heap.push (eo led)).objs.size=s.heap.objs.size+1:=Heap.size_push ..
    have lne:l ≠ (s.heap.push (eo led)).objs.size:=Nat.ne_of_lt (sz1 ▸ Nat.lt_succ_of_lt ltl)
    have nin:s.heap.objs.size ∉ [(s.heap.push (eo led)).objs.size,l]:=by
     intro z
     rcases List.mem_cons.mp z with z | z
     ·exact absurd (z.trans sz1) (Nat.ne_of_lt (Nat.lt_succ_self _))
     ·have:s.heap.objs.size=l:=by simpa using z
      exact absurd this.symm (Nat.ne_of_lt ltl)
    refine zc6 ((Walks.list (show A.in1.in1.in1.handled=none by simp [hh]) _ l lne its).toS) s.heap.objs.size nin xs hb (fun i v hv=>SS.strs_at hi i v (by rw [Array.getElem?_toList]; exact hv)) its.size 0 _ rfl ⟨⟨_,Heap.get?_push_size _ rfl,rfl,rfl⟩,isl.push _⟩ ?c1 ?c2
    case c1=>exact SetOf_congr ((setObjOf_fresh (knd:=PySem.strKind P w) led).setOf (Heap.get?_push_of_some _ at0) (by unfold scanBound; omega)) (fun _=>rfl) rfl
    case c2 =>
     rintro ⟨h',g',d',tk',os'⟩ hm hS'
     have eg:g'=s.gens:=hm.gens; have ed:d'=s.drawn:=hm.drawn; have eo':os'=s.os:=hm.os
     subst eg ed eo'
     show wpAny _ _ _ _ _ _
     refine wpAny_pure (show wpAny _ _ (ret Value.none) _ _ _ from wpAny_pure ⟨rfl,h',tk',rfl,hS',fun b o hb' e=>hm.heap b o (fun z=>?_) (Heap.get?_push_of_some _ (Heap.get?_push_of_some _ e))⟩)
     rcases List.mem_cons.mp z with z | z
     ·exact absurd z (Nat.ne_of_lt hb')
     ·have:b=(s.heap.push (eo led)).objs.size:=by simpa using z
      exact absurd (this.trans sz1) (Nat.ne_of_lt (Nat.lt_succ_of_lt hb'))
   ·cases r₂ with
    | error e=>exact hr₂
    | ok fl₂ =>
    cases fl₂ with
    | ret r =>
     obtain ⟨rfl,h',tk,rfl,hS',hk'⟩:=hr₂
     repeat (any_goals (first | assumption | wp_step))
     exact h _ _ hS' hk'
    | _=>exact hr₂.elim
  | _=>exact hr.elim))
end
/-- all that is met,met -/
theorem z78 (xs:List Str):∀ (i:Nat) (k:Str),k ∈ met xs i ↔ ∃ j,j < i/\xs.getD j Str.empty=k
 | 0,k=>by simp [met]
 | i+1,k=>by
  rw [met]
  have ih:=z78 xs i k
  split
  ·rename_i h
   rw [ih]
   refine ⟨fun ⟨j,a,b⟩=>⟨j,by omega,b⟩,fun ⟨j,a,b⟩=>?_⟩
   by_cases e:j=i
   ·subst e
    obtain ⟨y,hy,he⟩:=List.any_eq_true.mp h
    have:=(z78 xs j y).mp hy
    rw [beq_iff_eq.mp he,b] at this
    exact this
   ·exact ⟨j,by omega,b⟩
  ·rw [List.mem_append,ih]
   refine ⟨fun z=>?_,fun ⟨j,a,b⟩=>?_⟩
   ·rcases z with ⟨j,a,b⟩ | z
    ·exact ⟨j,by omega,b⟩
    ·exact ⟨i,by omega,(List.mem_singleton.mp z).symm⟩
   ·by_cases e:j=i
    ·subst e; exact .inr (List.mem_singleton.mpr b.symm)
    ·exact .inl ⟨j,by omega,b⟩
theorem z2t (xs:List Str):∀ i,(met xs i).Nodup
 | 0=>List.nodup_nil
 | i+1=>by
  rw [met]
  split
  ·exact z2t xs i
  ·rename_i h
   refine List.nodup_append.mpr ⟨z2t xs i,by simp,fun a ha b hb e=>h ?_⟩
   rw [List.mem_singleton.mp hb] at e
   exact List.any_eq_true.mpr ⟨a,ha,beq_iff_eq.mpr e⟩
theorem zg3 (xs:List Str) (k:Str):k ∈ met xs xs.length ↔ k ∈ xs:=by
 rw [z78]
 refine ⟨fun ⟨j,a,b⟩=>?_,fun h=>?_⟩
 ·rw [<- b,List.getD_eq_getElem?_getD,List.getElem?_eq_getElem a]; exact List.getElem_mem a
 ·obtain ⟨j,a,b⟩:=List.getElem_of_mem h
  exact ⟨j,a,by rw [List.getD_eq_getElem?_getD,List.getElem?_eq_getElem a]; exact b⟩
theorem z8c (xs:List Str):∀ i,i<=xs.length->(met xs i).length=i->met xs i=xs.take i
 | 0,_,_=>by simp [met]
 | i+1,hi,h=>by
  have hl:=z6x xs i
  rw [met] at h ⊢
  split at h
  ·omega
  ·rename_i hn
   rw [if_neg hn]
   rw [List.length_append,List.length_singleton] at h
   rw [z8c xs i (by omega) (by omega),List.take_add_one,List.getD_eq_getElem?_getD,List.getElem?_eq_getElem (by omega)]
   rfl
theorem z81 (xs:List Str):(met xs xs.length).length=xs.length ↔ xs.Nodup:=by
 constructor
 ·intro h
  have e:=z8c xs xs.length (Nat.le_refl _) h
  rw [List.take_length] at e
  rw [<- e]; exact z2t xs _
 ·intro h
  exact ((List.perm_ext_iff_of_nodup (z2t xs _) h).mpr fun k=>zg3 xs k).length_eq
section
variable {X:Cx}
/-- len(set(xs)),xs a list of texts -/
def zcn (K:PySem.W.Frag) (ta:TE):TE:=fun σ H Q=>ta σ H fun x H1=>∃ (l:Addr) (zs:List Str),x=V.ref l/\SqL K H1 l (zs.map V.str)/\zs.length < 1000/\Q (.int (met zs zs.length).length) H1
theorem zar {a:Expr} {ta:TE} {p p2 q pos:Pos} (hc:X.calm=true) (B:BI X.mg) (g1:Gl X "len") (g2:Gl X "set") (ha:PE X a ta)
  (na:starEach [a] X.env=(false,eval a X.env)::starEach [] X.env:=by rfl):PE X (.Call (.Name "len" p) [.Call (.Name "set" p2) [a] [] q] [] pos) (zcn X.K ta):=by
 refine ⟨fun pins s σ H Q I h=>Call_ (ld_blt I g1 B.len PySem.boot_len ?_)⟩
 refine PyProof.Rows.callWith_builtin1 (PyProof.Rows.args_cons (Call_ (ld_blt I g2 B.set PyProof.Rows.boot_set ?_)) rfl) rfl rfl
 refine PyProof.Rows.callWith_type1 (PyProof.Rows.args_cons (thn (ha.run pins s σ H _ I h) fun v s1 ⟨x,H1,I1,r1,l,zs,ex,hq,h1,q1⟩=>PyProof.Rows.args_nil ?_) na) na rfl
 subst ex
 cases r1
 obtain ⟨its,rv,pl,hz⟩:=I1.list hq
 have hlen:its.toArray.size=zs.length:=by rw [List.size_toArray,<- rv.length,List.length_map]
 refine zbs (xs:=zs) (I1.ok.hd hc) pl.isList (by simpa using rv.strs) (by rw [hlen]; unfold scanBound; omega) fun h' tk hS hk=>PyProof.Rows.args_nil ?_
 rw [hlen] at hS
 have hm:=z6x zs zs.length
 obtain ⟨o,es,ep,t,ho,hex,hd,_,_,_,hf,hn⟩:=hS
 have J:Inv X pins σ H1 { s1 with heap:=h',toks:=tk }:=I1.kept fun b o e=>hk b o (Heap.lt_size e) e
 exact call_len_set ho hex hd hf (by rw [hn]; omega) ⟨.int (met zs zs.length).length,H1,J.tok _,⟨_,by rw [hn]⟩,q1⟩
end
section
variable {X:Cx} {CX:CXT} {k:Nat} {f C:Addr} {fd:FuncData} {ps:List Str} {sp:Sp} {E:L2.St->XK} {x m:Str} {p pos apos:Pos} {e o:Expr} {es:List Expr} {ta:TE} {t:TA}
def z4l (C:Addr) (m:Str) (sp:Sp) (E:L2.St->XK) (ta:TE) (t:TA):TE:=fun σ H Q=>ta σ H fun y H1=>∃ a dx fs,y=.ref a/\H1 a=some (.ins C dx fs)/\fs.lookup m=none/\t σ H1 fun vs H2=>sp (y::vs) H2 Q (E σ)
def zbf (C:Addr) (sp:Sp) (E:L2.St->XK) (t:TA):TE:=fun σ H Q=>t σ H fun vs H1=>∀ y dx,H1 y=none->H1 dx=none->dx ≠ y ->
 sp (.ref y::vs) (upd (upd H1 dx (.own y)) y (.ins C dx [])) (fun v H2=>v=.non/\Q (.ref y) H2) (E σ)
theorem z8p {pl:Sem Bool} (ho:PE X o ta) (c:Cls X.K C) (hm:Meth X.K C m f) (F:FnOk X.prog X.w X.K X.mg X.base CX k f fd ps sp) (hr:Room k X.A) (hb:Binds X.K fd ps []) (hx:∀ σ,PassesAt CX X σ (E σ)) (ha:PA X (e::es) t)
  (hst:starEach (e::es) X.env=(false,eval e X.env)::starEach es X.env:=by rfl) (hpl:(backTo pos (starEach es X.env)).any (·.1)=false:=by rfl)
  (ht:eval (.Call (.Attribute o m apos) (e::es) [] pos) X.env=(do
    let ov <- eval o X.env
    standAt apos.atName
    let (g,first) <- holding [ov] (getMethod ov m pl)
    callWith pos g first (backTo pos (starEach (e::es) X.env)) (backToKw pos (keywordEach [] X.env))):=by rfl) :
  PE X (.Call (.Attribute o m apos) (e::es) [] pos) (z4l C m sp E ta t):=by
 refine ⟨fun pins s σ H Q I h=>PySem.W.methodCall_KW (pl:=pl) (thn (ho.run pins s σ H _ I h) fun u s1 ⟨y,H1,I1,ry,a,dx,fs,ey,ea,l,q⟩=>?_) ht⟩
 subst ey
 cases (show u=Value.ref a from ry)
 exact getmeth_ok I1 ea c hm l (PySem.W.callWith_K (first:=[.ref a]) (h₀:=X.base) I.ok.mod.kin hm.kp
  (thn (ha.run pos pins s1 σ H1 _ I1 q) fun us s2 ⟨vs,H2,I2,r,q2⟩=>⟨I2.kIn,run_fnS (us:=.ref a::us) (vs:=.ref a::vs) F hr hb (hx σ) I2 (.cons rfl r) q2⟩) hst hpl)
theorem zbr {pl:Sem Bool} (ho:PE X o ta) (c:Cls X.K C) (hm:Meth X.K C m f) (F:FnOk X.prog X.w X.K X.mg X.base CX k f fd ps sp) (hr:Room k X.A) (hb:Binds X.K fd ps []) (hx:∀ σ,PassesAt CX X σ (E σ))
  (ht:eval (.Call (.Attribute o m apos) [] [] pos) X.env=(do
    let ov <- eval o X.env
    standAt apos.atName
    let (g,first) <- holding [ov] (getMethod ov m pl)
    callWith pos g first (backTo pos (starEach [] X.env)) (backToKw pos (keywordEach [] X.env))):=by rfl) :
  PE X (.Call (.Attribute o m apos) [] [] pos) (z4l C m sp E ta tNil):=by
 refine ⟨fun pins s σ H Q I h=>PySem.W.methodCall_KW (pl:=pl) (thn (ho.run pins s σ H _ I h) fun u s1 ⟨y,H1,I1,ry,a,dx,fs,ey,ea,l,q⟩=>?_) ht⟩
 subst ey
 cases (show u=Value.ref a from ry)
 exact getmeth_ok I1 ea c hm l (PySem.W.callWith_K0 (first:=[.ref a]) I1.kIn hm.kp (run_fnS (us:=[.ref a]) (vs:=[.ref a]) F hr hb (hx σ) I1 (.cons rfl .nil) q))
theorem zcu (M:Mk X.K C f) (F:FnOk X.prog X.w X.K X.mg X.base CX k f fd ps sp) (hr:Room (k+1) X.A) (hg:Gl X x) (hm:X.mg x=some (.ref C)) (hb:Binds X.K fd ps []) (hx:∀ σ,PassesAt CX X σ (E σ))
  (ha:PA X (e::es) t) (hdb:(x == ("__debug__":Str))=false:=by decide) (he:starEach (e::es) X.env=(false,eval e X.env)::starEach es X.env:=by rfl) (hpl:(backTo pos (starEach es X.env)).any (·.1)=false:=by rfl) :
  PE X (.Call (.Name x p) (e::es) [] pos) (zbf C sp E t):=by
 refine ⟨fun pins s σ H Q I h=>wpAny_Call_Name_kw (ld_glob I hg hm ?_ hdb)⟩
 refine PySem.W.callWith_K (h₀:=X.base) I.ok.mod.kin M.kp (thn (ha.run pos pins s σ H _ I h) fun us s1 ⟨vs,H1,I1,r,q⟩=>⟨I1.kIn,?_⟩) he hpl
 have hq:=q (s1.heap.objs.size+1) s1.heap.objs.size (I1.hok.fresh (Nat.le_succ _)) (I1.hok.fresh (Nat.le_refl _)) (Nat.ne_of_lt (Nat.lt_succ_self _))
 have J:=Inv.made (C:=C) I1
 have r2:Vals (V.ref (s1.heap.objs.size+1)::vs) (Value.ref (s1.heap.objs.size+1)::us):=.cons rfl r
 have hl:(Value.ref (s1.heap.objs.size+1)::us).length=ps.length:=by rw [<- r2.length]; exact F.len _ _ _ _ hq
 have b:=hb _ (Value.ref (s1.heap.objs.size+1)::us) J.kIn (by rw [List.append_nil]; exact hl)
 rw [List.append_nil] at b
 refine wpAny_call (make_map (f:=f) I1.kIn M.makes M.init (beq_iff_eq.mp M.fn) (codeAny_mono (F.run _ X.stack _ _ ⟨Value.ref (s1.heap.objs.size+1)::us,[]⟩ (Value.ref (s1.heap.objs.size+1)::us) _ _ (E σ) (hr.make C us [])
  (J.env0.make C us []) b r2 hq) fun r s' hq'=>?_))
 match r,hq' with
 | .error er,hq'=>exact hx σ pins _ _ er s' J hq'
 | .ok (.ret u),hq' =>
  obtain ⟨v,H',J3,rv,ev,q3⟩:=J.after hq'
  subst ev
  exact ⟨rv,⟨V.ref (s1.heap.objs.size+1),H',J3,rfl,q3⟩⟩
 | .ok .next,hq'=>exact hq'.elim
 | .ok .brk,hq'=>exact hq'.elim
 | .ok .cont,hq'=>exact hq'.elim
end
/-- a method known by its promise: one that raises nothing,one that may -/
structure GotM (P:Program) (w:World) (K:PySem.W.Frag) (mg:Str->Option Value) (base:Heap) (C:Addr) (m:Str) (ps:List Str) (k:Nat) (sp:Sp):Prop where
 ex:∃ (f:Addr) (fd:FuncData),FnOk P w K mg base CX0 k f fd ps sp/\Meth K C m f/\Binds K fd ps []/\Cls K C
structure z3p (P:Program) (w:World) (K:PySem.W.Frag) (mg:Str->Option Value) (base:Heap) (C:Addr) (m:Str) (ps:List Str) (k:Nat) (sp:Sp):Prop where
 ex:∃ (f:Addr) (fd:FuncData),FnOk P w K mg base (L2.CX P w) k f fd ps sp/\Meth K C m f/\Binds K fd ps []/\Cls K C
/-- a class known by the promise of its __init__ -/
structure GotI (P:Program) (w:World) (K:PySem.W.Frag) (mg:Str->Option Value) (base:Heap) (x:Str) (C:Addr) (ps:List Str) (k:Nat) (sp:Sp):Prop where
 ex:∃ (f:Addr) (fd:FuncData),FnOk P w K mg base (L2.CX P w) k f fd ps sp/\Mk K C f/\Binds K fd ps []/\mg x=some (.ref C)
section
variable {X:Cx} {C:Addr} {x m:Str} {ps:List Str} {k:Nat} {sp:Sp} {e o:Expr} {es:List Expr} {ta:TE} {t:TA} {p pos apos:Pos} {pl:Sem Bool}
theorem z8t (G:GotM X.prog X.w X.K X.mg X.base C m ps k sp) (hr:Room k X.A) (ho:PE X o ta)
  (ht:eval (.Call (.Attribute o m apos) [] [] pos) X.env=(do
    let ov <- eval o X.env
    standAt apos.atName
    let (g,first) <- holding [ov] (getMethod ov m pl)
    callWith pos g first (backTo pos (starEach [] X.env)) (backToKw pos (keywordEach [] X.env))):=by rfl) :
  PE X (.Call (.Attribute o m apos) [] [] pos) (z4l C m sp (fun _=>E0) ta tNil):=by
 obtain ⟨f,fd,h1,h2,h3,h4⟩:=G.ex
 exact zbr ho h4 h2 h1 hr h3 (fun σ pins H s e s' I c=>pass0 pins σ H s e s' I c) ht
theorem z8u (G:z3p X.prog X.w X.K X.mg X.base C m ps k sp) (hr:Room k X.A) (ho:PE X o ta) (ha:PA X (e::es) t)
  (hst:starEach (e::es) X.env=(false,eval e X.env)::starEach es X.env:=by rfl) (hpl:(backTo pos (starEach es X.env)).any (·.1)=false:=by rfl)
  (ht:eval (.Call (.Attribute o m apos) (e::es) [] pos) X.env=(do
    let ov <- eval o X.env
    standAt apos.atName
    let (g,first) <- holding [ov] (getMethod ov m pl)
    callWith pos g first (backTo pos (starEach (e::es) X.env)) (backToKw pos (keywordEach [] X.env))):=by rfl) :
  PE X (.Call (.Attribute o m apos) (e::es) [] pos) (z4l C m sp (fun _=>E0) ta t):=by
 obtain ⟨f,fd,h1,h2,h3,h4⟩:=G.ex
 exact z8p ho h4 h2 h1 hr h3 (fun σ pins H s e s' I c=>passL pins σ H s e s' I c) ha hst hpl ht
theorem zc0 {W:WX} (G:z3p X.prog X.w X.K X.mg X.base C m ps k sp) (hr:Room k X.A) (tk:Takes X W) (ho:PE X o ta) (ha:PA X (e::es) t)
  (hst:starEach (e::es) X.env=(false,eval e X.env)::starEach es X.env:=by rfl) (hpl:(backTo pos (starEach es X.env)).any (·.1)=false:=by rfl)
  (ht:eval (.Call (.Attribute o m apos) (e::es) [] pos) X.env=(do
    let ov <- eval o X.env
    standAt apos.atName
    let (g,first) <- holding [ov] (getMethod ov m pl)
    callWith pos g first (backTo pos (starEach (e::es) X.env)) (backToKw pos (keywordEach [] X.env))):=by rfl) :
  PE X (.Call (.Attribute o m apos) (e::es) [] pos) (z4l C m sp (WE W) ta t):=by
 obtain ⟨f,fd,h1,h2,h3,h4⟩:=G.ex
 exact z8p ho h4 h2 h1 hr h3 (fun σ=>passAt tk σ) ha hst hpl ht
theorem zff (G:GotI X.prog X.w X.K X.mg X.base x C ps k sp) (hr:Room (k+1) X.A) (hg:Gl X x) (ha:PA X (e::es) t) (hdb:(x == ("__debug__":Str))=false:=by decide)
  (he:starEach (e::es) X.env=(false,eval e X.env)::starEach es X.env:=by rfl) (hpl:(backTo pos (starEach es X.env)).any (·.1)=false:=by rfl) :
  PE X (.Call (.Name x p) (e::es) [] pos) (zbf C sp (fun _=>E0) t):=by
 obtain ⟨f,fd,h1,h2,h3,h4⟩:=G.ex
 exact zcu h2 h1 hr hg h4 h3 (fun σ pins H s e s' I c=>passL pins σ H s e s' I c) ha hdb he hpl
end
def z9w (K:PySem.W.Frag) (C:Addr):Sp:=fun vs H Q _=>∃ (a:Addr) (y:V),vs=[.ref a,y]/\OexC K C/\PySem.W.findIn K (.ref C) "kind"=some none/\H a=some (exo a C none)/\∀ dx,H dx=none->dx ≠ a->Q .non (upd (upd H dx (exd dx [("kind",y)])) a (exo a C (some dx)))
structure OwnI (P:Program) (w:World) (K:PySem.W.Frag) (mg:Str->Option Value) (base:Heap) (x:Str) (C:Addr) (k:Nat):Prop where
 gC:mg x=some (.ref C)
 T:OexC K C
 no:PySem.W.findIn K (.ref C) "kind"=some none
 ex:∃ (f:Addr) (fd:FuncData),PySem.W.findIn K (.ref C) "__init__"=some (some (.ref f))/\PySem.W.typeIn K (.ref f)=some (.type "function")/\FnOk P w K mg base CX0 k f fd ["self","kind"] (z9w K C)/\Binds K fd ["self","kind"] []
def zdf (K:PySem.W.Frag) (C:Addr):Bool:=(match K.lookup C with
 | some ⟨.type "type",_,.cls cd,sl⟩=>(match cd.mro,sl.toList with
  | .ref D::bm,[_,_,_,_,some (.builtin n),_]=>decide (D=C)&&(n == "ValueError.__new__"&&(!cd.hasDel&&(cd.hasDict&&PySem.HandSPX.refsVE bm)))
  | _,_=>false)
 | _=>false)&&(He.eqO (PySem.W.findIn K (.ref C) "__setattr__") (some (some (.builtin "object.__setattr__")))&&(decide (PySem.W.subIn K (.ref C) (.type "BaseException")=some true)&&(decide (PySem.W.typeIn K (.ref C)=some (.type "type"))&&PySem.W.keepIn K (.ref C))))
theorem zcg {K:PySem.W.Frag} {C:Addr} (h:zdf K C=true):OexC K C:=by
 obtain ⟨h1,h⟩:=He.ba h
 obtain ⟨h2,h⟩:=He.ba h
 obtain ⟨h3,h⟩:=He.ba h
 obtain ⟨h4,h5⟩:=He.ba h
 refine ⟨?_,He.eqO_ok h2,of_decide_eq_true h3,of_decide_eq_true h4,h5⟩
 split at h1
 ·rename_i dd cd sl ho
  split at h1
  ·rename_i D bm k0 k1 k2 k3 n k5 hm hs
   obtain ⟨e1,h1⟩:=He.ba h1
   obtain ⟨e2,h1⟩:=He.ba h1
   obtain ⟨e3,h1⟩:=He.ba h1
   obtain ⟨e4,e5⟩:=He.ba h1
   have e1:=of_decide_eq_true e1
   have e2:=beq_iff_eq.mp e2
   obtain ⟨nm,bs,mro,ns,qn,hd,sn,sb,ab,col,del⟩:=cd
   simp only at hm e3 e4
   subst e1 e2 hm e4
   have e3:del=false:=by simpa using e3
   subst e3
   obtain ⟨sl⟩:=sl
   simp only at hs
   subst hs
   exact ⟨nm,qn,ns,bs,bm,sn,sb,ab,col,dd,k0,k1,k2,k3,k5,ho,e5⟩
  ·cases h1
 ·cases h1
/-- a reading that asks less -/
theorem _root_.L2.PE.wide {X:Cx} {e:Expr} {te:TE} (h:PE X e te):PE X e (fun σ H Q=>∃ Q':VK,te σ H Q'/\∀ v H',Q' v H'->Q v H') :=
 ⟨fun pins s σ H Q I ⟨Q',h1,h2⟩=>thn (h.run pins s σ H Q' I h1) fun v s1 ⟨y,H1,I1,r,q⟩=>⟨y,H1,I1,r,h2 _ _ q⟩⟩
section
variable {X:Cx} {C:Addr} {x:Str} {k:Nat} {e:Expr} {te:TE} {p pos:Pos}
def zii (C:Addr) (te:TE):L2.St->Hp->XK->Prop:=fun σ H Q=>te σ H fun y H1=>∀ d,H1 d=none->Q (.ref C) (some d) (upd H1 d (.xd [("kind",y)]))
theorem zc2 (O:OwnI X.prog X.w X.K X.mg X.base x C k) (hr:Room (k+1) X.A) (hg:Gl X x) (he:PE X e te) (hdb:(x == ("__debug__":Str))=false:=by decide)
  (hs:starEach [e] X.env=(false,eval e X.env)::starEach [] X.env:=by rfl) (hpl:(backTo pos (starEach [] X.env)).any (·.1)=false:=by rfl):PMk X (.Call (.Name x p) [e] [] pos) (zii C te):=by
 obtain ⟨f,fd,h1,h2,h3,h4⟩:=O.ex
 have hw:=pmk_oex (p:=p) O.T h1 h2 h3 hr h4 .nil pass0 hg O.gC (pa_cons (hs:=hs) he.wide pa_nil) hdb hs hpl
 intro pins s σ H Q I h
 refine hw pins s σ H Q I ⟨_,h,fun y H1 q=>?_⟩
 refine ⟨by simp,fun a ha=>⟨a,y,rfl,O.T,O.no,upd_same,fun dx hd ne=>⟨rfl,dx,[("kind",y)],upd_same,?_,?_,?_⟩⟩⟩
 ·rw [upd_ne ne,upd_same]
 ·rw [upd_ne ne] at hd; exact hd
 ·have e:upd (del (upd (upd (upd H1 a (exo a C none)) dx (exd dx [("kind",y)])) a (exo a C (some dx))) a) dx (.xd [("kind",y)])=upd H1 dx (.xd [("kind",y)]):=by
   funext b
   by_cases h1:b=dx
   ·subst h1; rw [upd_same,upd_same]
   ·rw [upd_ne h1,upd_ne h1]
    by_cases h2:b=a
    ·subst h2; rw [del_same,ha]
    ·rw [del_ne h2,upd_ne h2,upd_ne h1,upd_ne h2]
  rw [e]
  rw [upd_ne ne] at hd
  exact q dx hd
end
abbrev Ru:=Gr × Gr
def Ru.enc (r:Ru):PyData:=.tuple [r.1.enc,r.2.enc]
def Ru.within (r:Ru):List (Tr × Int):=r.1.within++r.2.within
structure Kd where
 n:Str
 w:Bool
 rs:List Ru
abbrev Bk:=List Kd
abbrev Bk.names (b:Bk):List Str:=b.map (·.n)
def Kd.rowE (k:Kd):PyData:=.tuple (k.rs.map Ru.enc)
def Bk.get (b:Bk) (n:Str):Option Kd:=b.find? fun k=>decide (k.n=n)
def RuOk (r:Ru):Prop:=r.1.Ok 1000000001/\r.2.Ok 1000000001/\r.1.parts+r.2.parts<=4
def KdOk (ns:List Str) (k:Kd):Prop:=z01 k.n/\k.rs.length<=4/\∀ r ∈ k.rs,RuOk r/\∀ p ∈ Ru.within r,p.1.1 ∈ ns
structure Bk.Ok (b:Bk):Prop where
 pos:1<=b.length
 len:b.length<=8
 nd:b.names.Nodup
 kd:∀ k ∈ b,KdOk b.names k
theorem Ru.noList_enc (r:Ru):z03 (Ru.enc r)=true:=by simp [Ru.enc,z03,z05,Gr.noList_enc]
theorem Kd.noList_rowE (k:Kd):z03 k.rowE=true:=by
 unfold Kd.rowE z03
 induction k.rs with
 | nil=>rfl
 | cons r l ih=>rw [List.map_cons,z05,Ru.noList_enc,ih]; rfl
theorem Bk.get_some {b:Bk} {n:Str} {k:Kd} (h:b.get n=some k):k ∈ b/\k.n=n :=
 ⟨List.mem_of_find?_eq_some h,of_decide_eq_true (List.find?_some (p:=fun k:Kd=>decide (k.n=n)) h)⟩
theorem Bk.get_none {b:Bk} {n:Str} (h:b.get n=none):n ∉ b.names:=fun z=>by
 obtain ⟨k,hk,e⟩:=List.mem_map.mp z
 have:=List.find?_eq_none.mp h k hk
 exact this (decide_eq_true e)
theorem Bk.get_of {b:Bk} {n:Str} (h:n ∈ b.names):∃ k,b.get n=some k:=by
 cases e:b.get n with
 | none=>exact absurd h (Bk.get_none e)
 | some k=>exact ⟨k,rfl⟩
theorem Bk.get_self {b:Bk} (nd:b.names.Nodup) {k:Kd} (hk:k ∈ b):b.get k.n=some k:=by
 induction b with
 | nil=>cases hk
 | cons x r ih =>
  have nd':(x.n::Bk.names r).Nodup:=nd
  unfold Bk.get
  rcases List.mem_cons.mp hk with e | e
  ·subst e; rw [List.find?_cons_of_pos (by simp)]
  ·have:¬ x.n=k.n:=fun z=>(List.nodup_cons.mp nd').1 (by rw [z]; exact List.mem_map.mpr ⟨k,e,rfl⟩)
   rw [List.find?_cons_of_neg (by simpa using this)]
   exact ih (List.nodup_cons.mp nd').2 e
/-- the rows of a book,by their names -/
def Bk.rowKV (b:Bk) (us:List V):List (Key × V):=List.zipWith (fun (k:Kd) (u:V)=>(Sum.inr k.n,u)) b us
def Bk.spKV (b:Bk):List (Key × V):=b.map fun k=>(Sum.inr k.n,V.bl k.w)
theorem Bk.spKV_val (b:Bk) (n:Str):valV b.spKV (Sum.inr n)=(b.get n).map fun k=>V.bl k.w:=by
 induction b with
 | nil=>rfl
 | cons x r ih =>
  by_cases e:x.n=n
  ·subst e
   rw [show Bk.spKV (x::r)=(Sum.inr x.n,V.bl x.w)::Bk.spKV r from rfl,valV_pos rfl]
   simp [Bk.get]
  ·rw [show Bk.spKV (x::r)=(Sum.inr x.n,V.bl x.w)::Bk.spKV r from rfl,valV_neg (by simpa using e),ih]
   simp [Bk.get,e]
theorem Bk.rowKV_val {K:PySem.W.Frag} {H:Hp} (n:Str):∀ {b:Bk} {us:List V},Bears K H Kd.rowE us b->∀ {k:Kd},b.get n=some k->∃ u,valV (b.rowKV us) (Sum.inr n)=some u/\Dp K H u k.rowE
 | [],_,_,k,h=>by cases h
 | x::r,_,.cons (v:=u) (vs:=us) h0 h1,k,h=>by
  have e0:Bk.rowKV (x::r) (u::us)=(Sum.inr x.n,u)::Bk.rowKV r us:=rfl
  by_cases e:x.n=n
  ·subst e
   have:x=k:=by simpa [Bk.get] using h
   subst this
   exact ⟨u,by rw [e0,valV_pos rfl],h0⟩
  ·have h':Bk.get r n=some k:=by simpa [Bk.get,e] using h
   obtain ⟨v,a,c⟩:=Bk.rowKV_val n h1 h'
   exact ⟨v,by rw [e0,valV_neg (by simpa using e)]; exact a,c⟩
abbrev bkF (d1 d2:Addr):List (Str × V):=[("spread_by_name",.ref d1),("rows_by_name",.ref d2)]
/-- v is an instance of the class at C that holds the book b -/
def BkA (K:PySem.W.Frag) (C:Addr) (H:Hp) (v:V) (b:Bk):Prop:=∃ (a dx d1 d2:Addr) (us:List V),v=.ref a/\H a=some (.ins C dx (bkF d1 d2))/\H d1=some (.dK b.spKV)/\H d2=some (.dK (b.rowKV us))/\Bears K H Kd.rowE us b
def Lsts (H:Hp) (ps:List Addr):Prop:=∀ p ∈ ps,H p=none\/∃ xs,H p=some (.lst xs)
theorem Lsts.nil {H:Hp}:Lsts H []:=fun _ h=>nomatch h
theorem Lsts.one {H:Hp} {p:Addr} {xs:List V} (h:H p=some (.lst xs)):Lsts H [p]:=fun q z=>by rw [List.mem_singleton.mp z]; exact .inr ⟨xs,h⟩
theorem Lsts.cons {H:Hp} {p:Addr} {xs:List V} {ps:List Addr} (h:H p=some (.lst xs)) (hs:Lsts H ps):Lsts H (p::ps):=fun q z=>by
 rcases List.mem_cons.mp z with z | z
 ·rw [z]; exact .inr ⟨xs,h⟩
 ·exact hs q z
theorem Lsts.notin {H:Hp} {ps:List Addr} (h:Lsts H ps) {a:Addr} {o:HO} (e:H a=some o) (n:∀ xs,o ≠ .lst xs):a ∉ ps:=fun z=>by
 rcases h a z with q | ⟨xs,q⟩
 ·rw [e] at q; cases q
 ·rw [e] at q; exact n xs (Option.some.inj q)
section
variable {K:PySem.W.Frag} {C:Addr} {H H':Hp} {v:V} {b:Bk} {ps:List Addr}
theorem BkA.sb (h:BkA K C H v b) (e:SB ps H H') (hp:Lsts H ps):BkA K C H' v b:=by
 obtain ⟨a,dx,d1,d2,us,rfl,h1,h2,h3,h4⟩:=h
 exact ⟨a,dx,d1,d2,us,rfl,e.keep _ _ h1 (hp.notin h1 fun _ z=>nomatch z),e.keep _ _ h2 (hp.notin h2 fun _ z=>nomatch z),e.keep _ _ h3 (hp.notin h3 fun _ z=>nomatch z),h4.sb e Kd.noList_rowE⟩
theorem BkA.sb0 (h:BkA K C H v b) (e:SB [] H H'):BkA K C H' v b:=h.sb e Lsts.nil
theorem BkA.at (h:BkA K C H v b):∃ a dx d1 d2,v=.ref a/\H a=some (.ins C dx (bkF d1 d2)):=by
 obtain ⟨a,dx,d1,d2,us,e,h1,_⟩:=h
 exact ⟨a,dx,d1,d2,e,h1⟩
end
/-- what a class has: its fields are in no class of it -/
structure ClsF (K:PySem.W.Frag) (C:Addr) (fs:List Str):Prop where
 c:Cls K C
 no:∀ f ∈ fs,NoAttr K C f
def z3c (K:PySem.W.Frag) (C:Addr):Sp:=fun vs H Q _=>∃ (v:V) (b:Bk),vs=[v]/\BkA K C H v b/\b.length<=1000/\∀ (l:Addr) (H':Hp),SB [] H H'->H l=none->H' l=some (.lst (b.names.map V.str))->Q (.ref l) H'
/-- n is a kind of b,or the error of the class at N has it as its field -/
def z6t (N:Addr) (b:Bk) (n:Str) (H:Hp) (E:XK) (q:Kd->Prop):Prop:=(∀ k,b.get n=some k->q k)/\(b.get n=none->∀ (d:Addr) (H':Hp),SB [] H H'->H d=none->H' d=some (.xd [("kind",.str n)])->E (.ref N) (some d) H')
def z2j (K:PySem.W.Frag) (C N:Addr):Sp:=fun vs H Q E=>∃ (v:V) (b:Bk) (n:Str),vs=[v,.str n]/\BkA K C H v b/\b.length<=1000/\z6t N b n H E fun _=>∀ H',SB [] H H'->Q .non H'
def z2b (K:PySem.W.Frag) (C N:Addr):Sp:=fun vs H Q E=>∃ (v:V) (b:Bk) (n:Str),vs=[v,.str n]/\BkA K C H v b/\b.length<=1000/\z6t N b n H E fun k=>∀ H',SB [] H H'->Q (.bl k.w) H'
def z6b (K:PySem.W.Frag) (C N:Addr):Sp:=fun vs H Q E=>∃ (v:V) (b:Bk) (n:Str),vs=[v,.str n]/\BkA K C H v b/\b.length<=1000/\(∀ k ∈ b,k.rs.length<=1000) /\
 z6t N b n H E fun k=>∀ (l:Addr) (us:List V) (H':Hp),SB [] H H'->H l=none->H' l=some (.lst us)->Bears K H' Ru.enc us k.rs->Q (.ref l) H'
inductive KT where
 | other
 | three (d:PyData) (w:Option Bool) (rs:Option (List PyData))
def Kd.kt (k:Kd):KT:=.three (.str k.n) (some k.w) (some (k.rs.map Ru.enc))
/-- a thing that is no tuple of three,or a tuple of three: of any thing,a truth or not,a list of things or not -/
def KTA (K:PySem.W.Frag) (H:Hp) (v:V):KT->Prop
 | .other=>∃ d,Tg K H v d/\∀ ds,d=.tuple ds->ds.length ≠ 3
 | .three d w rs=>∃ (t:Addr) (x y z:V),v=.ref t/\SqT K H t [x,y,z]/\Tg K H x d/\(match w with
   | some b=>y=.bl b
   | none=>∃ n,TyX K H y (.type n)/\kitB n "bool"=some false)/\(match rs with
   | some ds=>∃ (l:Addr) (zs:List V),z=.ref l/\H l=some (.lst zs)/\TgAll K H zs ds
   | none=>∃ n,TyX K H z (.type n)/\kitB n "list"=some false)
/-- a rule,as a datum -/
def RuD (d:PyData):Prop:=∃ r:Ru,d=Ru.enc r/\RuOk r
/-- what is looked at is not too great -/
def zap (d:PyData):Prop:=d.depth<=60/\wide d<=1000/\∀ a b,d=.tuple [a,b]->∀ g:Gr,a=g.enc\/b=g.enc->g.deep<=18/\g.parts<=450
def z83:KT->Prop
 | .other=>True
 | .three d w rs=>∀ ds,rs=some ds->ds.length<=1000/\∀ x ∈ ds,zap x
def KTKd (t:KT):Prop:=∃ k:Kd,t=k.kt/\z01 k.n/\k.rs.length<=4/\∀ r ∈ k.rs,RuOk r
def KTBk (ts:List KT):Prop:=∃ b:Bk,ts=b.map Kd.kt/\Bk.Ok b
inductive KTAll (K:PySem.W.Frag) (H:Hp):List V->List KT->Prop
 | nil:KTAll K H [] []
 | cons {v:V} {t:KT} {vs:List V} {ts:List KT}:KTA K H v t->KTAll K H vs ts->KTAll K H (v::vs) (t::ts)
def z3f (K:PySem.W.Frag):Sp:=fun vs H Q _=>∃ (v:V) (d:PyData),vs=[v]/\Tg K H v d/\zap d/\∀ (b:Bool) (H':Hp),SB [] H H'->(b=true ↔ RuD d)->Q (.bl b) H'
def z6n (K:PySem.W.Frag):Sp:=fun vs H Q _=>∃ (v:V) (t:KT),vs=[v]/\KTA K H v t/\z83 t/\∀ (b:Bool) (H':Hp),SB [] H H'->(b=true ↔ KTKd t)->Q (.bl b) H'
def z27 (K:PySem.W.Frag):Sp:=fun vs H Q _=>∃ (v:V) (l:Addr) (r:Ru) (ns:List Str),vs=[v,.ref l]/\Dp K H v (Ru.enc r)/\RuOk r/\SqL K H l (ns.map V.str)/\ns.length<=1000/\∀ H',SB [] H H'->Q (.bl (decide (∀ p ∈ Ru.within r,p.1.1 ∈ ns))) H'
def z3t (K:PySem.W.Frag):Sp:=fun vs H Q _=>∃ (l:Addr) (xs:List V) (ts:List KT),vs=[.ref l]/\SqL K H l xs/\KTAll K H xs ts/\(∀ t ∈ ts,z83 t)/\ts.length<=1000/\∀ (b:Bool) (H':Hp),SB [] H H'->(b=true ↔ KTBk ts)->Q (.bl b) H'
/-- Book(kinds): x is the new instance -/
def z59 (K:PySem.W.Frag) (C B:Addr):Sp:=fun vs H Q E=>∃ (x dx l:Addr) (xs:List V) (ts:List KT),vs=[.ref x,.ref l]/\H x=some (.ins C dx [])/\H dx=some (.own x)/\H l=some (.lst xs)/\KTAll K H xs ts/\(∀ t ∈ ts,z83 t)/\ts.length<=1000 /\
 (∀ b:Bk,ts=b.map Kd.kt->b.Ok->∀ H',SB [x] H H'->BkA K C H' (.ref x) b->Q .non H')/\(¬ KTBk ts->∀ H',SB [] H H'->E (.ref B) none H')
theorem z85 (n:Str) (zs:List Str):inV (.str n) (zs.map V.str)=decide (n ∈ zs):=by
 induction zs with
 | nil=>rfl
 | cons z r ih =>
  show ((z == n) || inV (.str n) (r.map V.str))=_
  rw [ih]
  by_cases e:z=n
  ·subst e; simp
  ·have e':¬ n=z:=fun y=>e y.symm
   rw [show (z == n)=false from beq_eq_false_iff_ne.mpr e,Bool.false_or]
   by_cases h:n ∈ r <;> simp [h,e']
theorem z7n (zs:List Str):(zs.map V.str).all flatV=true:=by simp [flatV]
theorem getK {H:Hp} {d:Addr} {kvs:List (Key × V)} {n:Str} {v:V} (h:H d=some (.dK kvs)) (e:valV kvs (Sum.inr n)=some v):DGet H d (.str n) (some v):=.inl ⟨kvs,Sum.inr n,.inl h,rfl,e.symm⟩
theorem Bk.get_isSome (b:Bk) (n:Str):decide (n ∈ b.names)=(b.get n).isSome:=by
 cases e:b.get n with
 | none=>simpa using Bk.get_none e
 | some k=>simpa using List.mem_map.mpr ⟨k,(Bk.get_some e).1,(Bk.get_some e).2⟩
section
variable {J:It} {n:Nat} {G:Hp->Prop} {Y:Nat->Hp->V->Hp->Prop}
theorem z34 (w:Walk J n G Y) {g:TG} {tt:TT} {te:TE} {vs:List Nat} {σ:L2.St} {H:Hp} {D:Addr} {Qd:Hp->Prop} (hD:H D=none) (hn:n < sizeLine) (R:Nat->List V->Hp->Prop) (h0:R 0 [] H) (hG:∀ H2,SB [] H H2->G H2)
  (st:∀ i us H2 H3,SB [D] H2 H3->R i us H2->R i us H3)
  (turn:∀ (Pv:Hp->Prop) i x H2 H' us,i < n->SB [] H H2->Y i H2 x H'->R i us H2->us.length<=i->(∀ y H5,SB [] H2 H5->R (i+1) (us++[y]) H5->∃ acc,H5 D=some (.lst acc)/\acc.length < sizeLine/\Pv (upd H5 D (.lst (acc++[y])))) ->
   (∀ H4,SB [] H2 H4->R (i+1) us H4->Pv H4)->g x (wipe σ vs) H' fun σ2 H3=>wipe σ2 vs=wipe σ vs/\tt σ2 H3 fun b H4 =>
    if b=true then te σ2 H4 fun y H5=>∃ acc,H5 D=some (.lst acc)/\acc.length < sizeLine/\Pv (upd H5 D (.lst (acc++[y]))) else Pv H4)
  (done:∀ us H2,SB [] H H2->H2 D=some (.lst us)->R n us H2->us.length<=n->Qd H2) :
  ∃ W:Nat->Nat->Hp->Prop,(∃ m,W 0 m (upd H D (.lst [])))/\∀ i m H,W i m H ->
   (J.stop i H/\Qd H)\/(J.go i H/\∃ Nx:Hp->Prop,(∀ H',Nx H'->∃ m',m' < m/\W (i+1) m' H')/\∀ x H',J.yld i H x H'->g x (wipe σ vs) H' fun σ2 H2=>wipe σ2 vs=wipe σ vs/\tt σ2 H2 fun b H3 =>
    if b=true then te σ2 H3 fun y H4=>∃ acc,H4 D=some (.lst acc)/\acc.length < sizeLine/\Nx (upd H4 D (.lst (acc++[y]))) else Nx H3):=by
 refine lc_it w (fun i H2=>SB [D] H H2/\∃ us,H2 D=some (.lst us)/\R i us H2/\us.length<=i) ⟨SB.new hD _,[],upd_same,st _ _ _ _ (SB.new hD _) h0,Nat.le_refl _⟩ (fun i H2 _ h=>hG H2 (h.1.drop hD)) (fun i x H2 H' hi h y=>?_) (fun H2 h=>?_)
 ·obtain ⟨s2,us,hD2,hR,hl⟩:=h
  refine turn _ i x H2 H' us hi (s2.drop hD) y hR hl (fun y H5 s5 r5=>?_) (fun H4 s4 r4=>⟨s2.trans s4.nil,us,s4.keep _ _ hD2 nmn,r4,by omega⟩)
  have hD5:=s5.keep _ _ hD2 nmn
  refine ⟨us,hD5,by omega,(s2.trans s5.nil).trans (SB.set hD5 (by simp) _),_,upd_same,st _ _ _ _ (SB.set hD5 (by simp) _) r5,?_⟩
  rw [List.length_append,List.length_singleton]; omega
 ·obtain ⟨s2,us,hD2,hR,hl⟩:=h
  exact done us H2 (s2.drop hD) hD2 hR hl
end
theorem z7v {C:Int}:∀ {g:Gr},z08 g.enc=true->(∀ p ∈ g.within,p.2 < C)->g.Ok C:=by
 have key:∀ (g:Gr),(∀ p ∈ g.within,p.2 < C)->grPs g.encs=true->(z31 (g.encs.map exp0)=true->g.Ok C):=by
  intro g
  induction g with
  | nil=>intro _ _ _; trivial
  | cons k g m r ihg ihr =>
   intro hb hps hri
   have hb1:∀ p ∈ g.within,p.2 < C:=fun p hp=>hb p (mcm _ (mal _ hp))
   have hb2:∀ p ∈ r.within,p.2 < C:=fun p hp=>hb p (mcm _ (mar _ hp))
   have e:(Gr.cons k g m r).encs=Gr.pEnc ((k,g),m)::r.encs:=rfl
   rw [e,grPs,Bool.and_eq_true] at hps
   rw [e,List.map_cons] at hri
   have hp:grP (.tuple [.tuple [.str k,.tuple g.encs],.int m])=true:=hps.1
   rw [grP,grP2,Bool.and_eq_true,z0l,trD2,Bool.and_eq_true,trD3,Bool.and_eq_true,z08,Bool.and_eq_true,z11,Bool.and_eq_true] at hp
   obtain ⟨⟨hn,⟨hgp,hgr⟩,_⟩,hmm,_⟩:=hp
   have hname:z01 k:=by
    obtain ⟨z,ez,hz⟩:=z4h hn
    cases ez; exact hz
   have hri2:z31 (r.encs.map exp0)=true:=by
    cases hre:r.encs with
    | nil=>rfl
    | cons d ds =>
     rw [hre,List.map_cons] at hri
     have:(dataLt (exp0 (Gr.pEnc ((k,g),m))) (exp0 d)::ltsD (exp0 d::ds.map exp0)).all id=true:=hri
     rw [List.all_cons,Bool.and_eq_true] at this
     rw [List.map_cons]; exact this.2
   have hro:=ihr hb2 hps.2 hri2
   refine ⟨hname,ihg hb1 hgp hgr,of_decide_eq_true hmm,hb _ (mcs ..),hro,fun p hpm=>?_⟩
   cases r with
   | nil=>cases hpm
   | cons k2 g2 m2 r2 =>
    have h12:dataLt (Gr.tEnc (k,g)) (Gr.tEnc (k2,g2))=true:=by
     have:(dataLt (Gr.tEnc (k,g)) (Gr.tEnc (k2,g2))::ltsD (Gr.tEnc (k2,g2)::r2.encs.map exp0)).all id=true:=hri
     rw [List.all_cons,Bool.and_eq_true] at this
     exact this.1
    rcases List.mem_cons.mp hpm with h | h
    ·subst h; exact h12
    ·exact z3g h12 (hro.2.2.2.2.2 p h)
 intro g hg hb
 rw [Gr.enc,z08,Bool.and_eq_true] at hg
 exact key g hb hg.1 hg.2
theorem z1o {C:Int}:∀ {g:Gr},g.Ok C->∀ p ∈ g.within,z01 p.1.1/\p.1.2.Ok C/\1<=p.2/\p.2 < C
 | .nil,_,p,h=>by cases h
 | .cons k g m r,⟨h0,h1,h2,h3,h4,_⟩,p,h=>by
  rcases List.mem_cons.mp h with h | h
  ·subst h; exact ⟨h0,h1,h2,h3⟩
  ·rcases List.mem_append.mp h with h | h
   ·exact z1o h1 p h
   ·exact z1o h4 p h
theorem Gr.enc_inj {g h:Gr} (e:g.enc=h.enc):g=h:=by
 have:=Gr.eqv_enc g h
 rw [e,Gr.eqv_enc h h,decide_eq_true rfl] at this
 exact of_decide_eq_true this.symm
/-- a rule,by what is looked at -/
theorem zft {g h:Gr} (hg:z08 g.enc=true) (hh:z08 h.enc=true):RuD (.tuple [g.enc,h.enc]) ↔ g.parts+h.parts<=4/\∀ p ∈ g.within++h.within,p.2<=1000000000:=by
 constructor
 ·rintro ⟨r,e,h1,h2,h3⟩
  have e':PyData.tuple [g.enc,h.enc]=.tuple [r.1.enc,r.2.enc]:=e
  injection e' with e'
  injection e' with a e'
  injection e' with b _
  rw [Gr.enc_inj a,Gr.enc_inj b]
  refine ⟨h3,fun p hp=>?_⟩
  rcases List.mem_append.mp hp with hp | hp
  ·have:=(z1o h1 p hp).2.2.2; omega
  ·have:=(z1o h2 p hp).2.2.2; omega
 ·rintro ⟨h1,h2⟩
  exact ⟨(g,h),rfl,z7v hg fun p hp=>by have:=h2 p (mal _ hp); omega,z7v hh fun p hp=>by have:=h2 p (mar _ hp); omega,h1⟩
theorem za3 {d:PyData} (h:RuD d):∃ g k:Gr,d=.tuple [g.enc,k.enc]/\z08 g.enc=true/\z08 k.enc=true:=by
 obtain ⟨r,e,h1,h2,_⟩:=h
 exact ⟨r.1,r.2,e,z2r h1,z2r h2⟩
theorem z0d:∀ g:Gr,g.deep<=g.parts
 | .nil=>Nat.le_refl _
 | .cons k g m r=>by
  have h1:=z0d g
  have h2:=z0d r
  show max (1+g.deep) r.deep<=1+g.parts+r.parts
  omega
theorem z9t:∀ {ds:List PyData},(∀ x ∈ ds,RuD x)->∃ rs:List Ru,ds=rs.map Ru.enc/\∀ r ∈ rs,RuOk r
 | [],_=>⟨[],rfl,fun _ h=>nomatch h⟩
 | d::ds,h=>by
  obtain ⟨r,e,hr⟩:=h d (mcs ..)
  obtain ⟨rs,e2,hrs⟩:=z9t fun x hx=>h x (mcm _ hx)
  refine ⟨r::rs,by rw [e,e2]; rfl,fun x hx=>?_⟩
  rcases List.mem_cons.mp hx with hx | hx
  ·rw [hx]; exact hr
  ·exact hrs x hx
theorem zhu {K:PySem.W.Frag} {H:Hp} {a:Addr} {xs:List V} (h:SqL K H a xs):TyX K H (.ref a) (.type "list"):=by
 rcases h with (h | ⟨o,h⟩) | ⟨o,its,n,h,c,_⟩
 ·exact .base (.lst h)
 ·exact .base (.frz h)
 ·exact .kList h c
section
variable {K:PySem.W.Frag} {H H':Hp}
theorem zb7 (e:SB [] H H'):∀ {t:KT} {v:V},KTA K H v t->KTA K H' v t
 | .other,v,⟨d,h1,h2⟩=>⟨d,z25 e h1,h2⟩
 | .three d w rs,v,⟨t,x,y,z,e0,h1,h2,h3,h4⟩=>by
  refine ⟨t,x,y,z,e0,e.sqT h1,z25 e h2,?_,?_⟩
  ·cases w with
   | some b=>exact h3
   | none =>
    obtain ⟨n,a,b⟩:=h3
    exact ⟨n,z1h e (fun _ _=>nmn) a,b⟩
  ·cases rs with
   | some ds =>
    obtain ⟨l,zs,e1,h5,h6⟩:=h4
    exact ⟨l,zs,e1,e.keep _ _ h5 nmn,z6d e h6⟩
   | none =>
    obtain ⟨n,a,b⟩:=h4
    exact ⟨n,z1h e (fun _ _=>nmn) a,b⟩
theorem KTAll.sb (e:SB [] H H'):∀ {vs:List V} {ts:List KT},KTAll K H vs ts->KTAll K H' vs ts
 | _,_,.nil=>.nil
 | _,_,.cons h t=>.cons (zb7 e h) (KTAll.sb e t)
theorem KTAll.length:∀ {vs:List V} {ts:List KT},KTAll K H vs ts->vs.length=ts.length
 | _,_,.nil=>rfl
 | _,_,.cons h t=>by rw [List.length_cons,List.length_cons,KTAll.length t]
theorem KTAll.get:∀ {vs:List V} {ts:List KT} {i:Nat} {v:V},KTAll K H vs ts->vs[i]?=some v->∃ t,ts[i]?=some t/\KTA K H v t
 | _,_,i,v,.nil,h=>by simp at h
 | _,_,0,v,.cons h t,e=>by simp at e; subst e; exact ⟨_,rfl,h⟩
 | _,_,i+1,v,.cons h t,e=>by
  simp at e
  obtain ⟨t',e',h'⟩:=KTAll.get (i:=i) t e
  exact ⟨t',by simpa using e',h'⟩
theorem zbe:∀ {ts:List KT},(∀ t ∈ ts,KTKd t)->∃ b:Bk,ts=b.map Kd.kt/\∀ k ∈ b,z01 k.n/\k.rs.length<=4/\∀ r ∈ k.rs,RuOk r
 | [],_=>⟨[],rfl,fun _ h=>nomatch h⟩
 | t::ts,h=>by
  obtain ⟨k,e,hk⟩:=h t (mcs ..)
  obtain ⟨b,e2,hb⟩:=zbe fun x hx=>h x (mcm _ hx)
  refine ⟨k::b,by rw [e,e2]; rfl,fun x hx=>?_⟩
  rcases List.mem_cons.mp hx with hx | hx
  ·rw [hx]; exact hk
  ·exact hb x hx
theorem zgt {k j:Kd} (e:k.kt=j.kt):k=j:=by
 obtain ⟨n,w,rs⟩:=k
 obtain ⟨n2,w2,rs2⟩:=j
 injection e with e1 e2 e3
 injection e1 with e1
 injection e2 with e2
 injection e3 with e3
 have e3:rs.map Ru.enc=rs2.map Ru.enc:=e3
 have e1:n=n2:=e1
 have e2:w=w2:=e2
 subst e1 e2
 have:rs=rs2:=by
  refine (List.map_inj_right ?_).mp e3
  intro x y h
  have h':PyData.tuple [x.1.enc,x.2.enc]=.tuple [y.1.enc,y.2.enc]:=h
  injection h' with h'
  injection h' with a h'
  injection h' with b _
  exact Prod.ext (Gr.enc_inj a) (Gr.enc_inj b)
 rw [this]
theorem z75 {b c:Bk} (e:b.map Kd.kt=c.map Kd.kt):b=c:=(List.map_inj_right (fun _ _=>zgt)).mp e
theorem z63:∀ {rs:List Ru} {zs:List V},TgAll K H zs (rs.map Ru.enc)->Bears K H Ru.enc zs rs
 | [],_,.nil=>.nil
 | r::rs,_,.cons h t=>by
  refine .cons ?_ (z63 t)
  cases (h:Tg K H _ (.tuple [r.1.enc,r.2.enc])) with
  | tup hs ha =>
   cases ha with
   | cons h1 ha =>
   cases ha with
   | cons h2 ha =>
   cases ha
   cases h1 with
   | tup a1 b1 =>
   cases h2 with
   | tup a2 b2=>exact .tup hs (.cons (.tup a1 (z3v r.1 b1)) (.cons (.tup a2 (z3v r.2 b2)) .nil))
/-- v is a tuple of a name,a truth and a list of rules,which is none of bad: those of k -/
def KdA (K:PySem.W.Frag) (H:Hp) (bad:List Addr) (v:V) (k:Kd):Prop:=∃ (t l:Addr) (zs:List V),v=.ref t/\SqT K H t [.str k.n,.bl k.w,.ref l]/\H l=some (.lst zs)/\Bears K H Ru.enc zs k.rs/\l ∉ bad
theorem zhi {k:Kd} {v:V} (h:KTA K H v k.kt):KdA K H [] v k:=by
 obtain ⟨t,x,y,z,e0,h1,h2,h3,l,zs,rfl,h5,h6⟩:=h
 have h3:y=.bl k.w:=h3
 subst h3
 cases h2
 exact ⟨t,l,zs,e0,h1,h5,z63 h6,nmn⟩
def NoLst (H:Hp) (bad ps:List Addr):Prop:=∀ p ∈ ps,p ∈ bad\/∀ xs,H p ≠ some (.lst xs)
theorem NoLst.nil {bad:List Addr}:NoLst H bad []:=fun _ z=>nomatch z
theorem NoLst.self {bad:List Addr}:NoLst H bad bad:=fun _ z=>.inl z
theorem NoLst.new {bad:List Addr} {p:Addr} (h:H p=none):NoLst H bad [p]:=fun q z=>.inr fun xs=>by rw [List.mem_singleton.mp z,h]; exact fun y=>nomatch y
theorem KdA.sb {k:Kd} {v:V} {ps bad:List Addr} (h:KdA K H bad v k) (e:SB ps H H') (n:NoLst H bad ps):KdA K H' bad v k:=by
 obtain ⟨t,l,zs,e0,h1,h2,h3,h4⟩:=h
 exact ⟨t,l,zs,e0,e.sqT h1,e.keep _ _ h2 fun z=>(n _ z).elim h4 fun y=>y _ h2,h3.sb e Ru.noList_enc,h4⟩
inductive KdAll (K:PySem.W.Frag) (H:Hp) (bad:List Addr):List V->Bk->Prop
 | nil:KdAll K H bad [] []
 | cons {v:V} {k:Kd} {vs:List V} {b:Bk}:KdA K H bad v k->KdAll K H bad vs b->KdAll K H bad (v::vs) (k::b)
theorem KdAll.sb {ps bad:List Addr} (e:SB ps H H') (n:NoLst H bad ps):∀ {vs:List V} {b:Bk},KdAll K H bad vs b->KdAll K H' bad vs b
 | _,_,.nil=>.nil
 | _,_,.cons h t=>.cons (h.sb e n) (KdAll.sb e n t)
theorem KdAll.less {bad bad':List Addr} (hb:∀ x ∈ bad',x ∈ bad):∀ {vs:List V} {b:Bk},KdAll K H bad vs b->KdAll K H bad' vs b
 | _,_,.nil=>.nil
 | _,_,.cons ⟨t,l,zs,h1,h2,h3,h4,h5⟩ r=>.cons ⟨t,l,zs,h1,h2,h3,h4,fun z=>h5 (hb l z)⟩ (KdAll.less hb r)
theorem KdAll.append {bad:List Addr}:∀ {xs ys:List V} {bs cs:Bk},KdAll K H bad xs bs->KdAll K H bad ys cs->KdAll K H bad (xs++ys) (bs++cs)
 | _,_,_,_,.nil,h=>h
 | _,_,_,_,.cons a b,h=>.cons a (KdAll.append b h)
theorem KdAll.length {bad:List Addr}:∀ {vs:List V} {ts:Bk},KdAll K H bad vs ts->vs.length=ts.length
 | _,_,.nil=>rfl
 | _,_,.cons h t=>by rw [List.length_cons,List.length_cons,KdAll.length t]
theorem KdAll.get {bad:List Addr}:∀ {vs:List V} {ts:Bk} {i:Nat} {v:V},KdAll K H bad vs ts->vs[i]?=some v->∃ t,ts[i]?=some t/\KdA K H bad v t
 | _,_,i,v,.nil,h=>by simp at h
 | _,_,0,v,.cons h t,e=>by simp at e; subst e; exact ⟨_,rfl,h⟩
 | _,_,i+1,v,.cons h t,e=>by
  simp at e
  obtain ⟨t',e',h'⟩:=KdAll.get (i:=i) t e
  exact ⟨t',by simpa using e',h'⟩
theorem KTAll.kd:∀ {b:Bk} {vs:List V},KTAll K H vs (b.map Kd.kt)->KdAll K H [] vs b
 | [],_,.nil=>.nil
 | k::b,_,.cons h t=>.cons (zhi h) (KTAll.kd t)
theorem z64 {zs:List V}:∀ {rs:List Ru} {zs:List V},(∀ r ∈ rs,RuOk r)->Bears K H Ru.enc zs rs->TgAll K H zs (rs.map Ru.enc)
 | [],_,_,.nil=>.nil
 | r::rs,_,ok,.cons h t=>by
  refine .cons ?_ (z64 (zs:=zs) (fun x hx=>ok x (mcm _ hx)) t)
  obtain ⟨o1,o2,_⟩:=ok r (mcs ..)
  cases (h:Dp K H _ (.tuple [r.1.enc,r.2.enc])) with
  | tup hs ha =>
   cases ha with
   | cons h1 ha =>
   cases ha with
   | cons h2 ha =>
   cases ha
   exact .tup hs (.cons (z95 o1 h1) (.cons (z95 o2 h2) .nil))
theorem KdAll.kt {bad:List Addr}:∀ {b:Bk} {vs:List V},(∀ k ∈ b,z01 k.n/\∀ r ∈ k.rs,RuOk r)->KdAll K H bad vs b->KTAll K H vs (b.map Kd.kt)
 | [],_,_,.nil=>.nil
 | k::b,_,ok,.cons h t=>by
  refine .cons ?_ (KdAll.kt (fun x hx=>ok x (mcm _ hx)) t)
  obtain ⟨t,l,zs,e0,h1,h2,h3,_⟩:=h
  obtain ⟨o1,o2⟩:=ok k (mcs ..)
  exact ⟨t,_,_,_,e0,h1,.str _ (zaw o1),rfl,l,zs,rfl,h2,z64 (zs:=zs) o2 h3⟩
theorem zcj {r:Ru} (h:RuOk r):zap (Ru.enc r):=by
 obtain ⟨h1,h2,h3⟩:=h
 have d1:=z0d r.1
 have d2:=z0d r.2
 have e1:=r.1.encs_depth
 have e2:=r.2.encs_depth
 obtain ⟨w1,w2⟩:=z3u r.1
 obtain ⟨w3,w4⟩:=z3u r.2
 refine ⟨?_,?_,fun a b e g hg=>?_⟩
 ·show PyData.depth (.tuple [.tuple r.1.encs,.tuple r.2.encs])<=60
  simp only [PyData.depth,PyData.depthAll]; omega
 ·show wide (.tuple [.tuple r.1.encs,.tuple r.2.encs])<=1000
  simp only [wide,z16,List.length_cons,List.length_nil]; omega
 ·have e':PyData.tuple [r.1.enc,r.2.enc]=.tuple [a,b]:=e
  injection e' with e'
  injection e' with ea e'
  injection e' with eb _
  rcases hg with hg | hg
  ·rw [<- ea] at hg; rw [<- Gr.enc_inj hg]; omega
  ·rw [<- eb] at hg; rw [<- Gr.enc_inj hg]; omega
theorem zd1 {k:Kd} (h:k.rs.length<=4/\∀ r ∈ k.rs,RuOk r):z83 k.kt:=by
 intro ds e
 have e:some (k.rs.map Ru.enc)=some ds:=e
 injection e with e
 subst e
 refine ⟨by rw [List.length_map]; omega,fun x hx=>?_⟩
 obtain ⟨r,hr,rfl⟩:=List.mem_map.mp hx
 exact zcj (h.2 r hr)
end
section
variable {J:It} {n:Nat} {G:Hp->Prop} {Y:Nat->Hp->V->Hp->Prop}
theorem z8v (w:Walk J n G Y) {g:TG} {tt:TT} {tk tv:TE} {vs:List Nat} {σ:L2.St} {H:Hp} {D:Addr} {Qd:Hp->Prop} (hD:H D=none) (hn:n < sizeLine) (R:Nat->List (Key × V)->Hp->Prop) (h0:R 0 [] H) (hG:∀ H2,SB [] H H2->G H2)
  (st:∀ i us H2 H3,SB [D] H2 H3->R i us H2->R i us H3)
  (turn:∀ (Pv:Hp->Prop) i x H2 H' kvs,i < n->SB [] H H2->Y i H2 x H'->R i kvs H2->kvs.length<=i->(∀ k z H5,SB [] H2 H5->R (i+1) (putK kvs k z) H5->∃ kvs k',kV k=kV k'/\H5 D=some (.dK kvs)/\kvs.length < sizeLine/\Pv (upd H5 D (.dK (putK kvs k' z)))) ->
   (∀ H4,SB [] H2 H4->R (i+1) kvs H4->Pv H4)->g x (wipe σ vs) H' fun σ2 H3=>wipe σ2 vs=wipe σ vs/\tt σ2 H3 fun b H4 =>
    if b=true then tk σ2 H4 fun y H5=>tv σ2 H5 fun z H6=>∃ kvs k,y=kV k/\H6 D=some (.dK kvs)/\kvs.length < sizeLine/\Pv (upd H6 D (.dK (putK kvs k z))) else Pv H4)
  (done:∀ kvs H2,SB [] H H2->H2 D=some (.dK kvs)->R n kvs H2->kvs.length<=n->Qd H2) :
  ∃ W:Nat->Nat->Hp->Prop,(∃ m,W 0 m (upd H D (.dK [])))/\∀ i m H,W i m H ->
   (J.stop i H/\Qd H)\/(J.go i H/\∃ Nx:Hp->Prop,(∀ H',Nx H'->∃ m',m' < m/\W (i+1) m' H')/\∀ x H',J.yld i H x H'->g x (wipe σ vs) H' fun σ2 H2=>wipe σ2 vs=wipe σ vs/\tt σ2 H2 fun b H3 =>
    if b=true then tk σ2 H3 fun y H4=>tv σ2 H4 fun z H5=>∃ kvs k,y=kV k/\H5 D=some (.dK kvs)/\kvs.length < sizeLine/\Nx (upd H5 D (.dK (putK kvs k z))) else Nx H3):=by
 refine lcG (body:=fun Nx x H'=>g x (wipe σ vs) H' fun σ2 H2=>wipe σ2 vs=wipe σ vs/\tt σ2 H2 fun b H3 =>
    if b=true then tk σ2 H3 fun y H4=>tv σ2 H4 fun z H5=>∃ kvs k,y=kV k/\H5 D=some (.dK kvs)/\kvs.length < sizeLine/\Nx (upd H5 D (.dK (putK kvs k z))) else Nx H3) w (fun i H2=>SB [D] H H2/\∃ kvs,H2 D=some (.dK kvs)/\R i kvs H2/\kvs.length<=i)
  ⟨SB.new hD _,[],upd_same,st _ _ _ _ (SB.new hD _) h0,Nat.le_refl _⟩ (fun i H2 _ h=>hG H2 (h.1.drop hD)) (fun i x H2 H' hi h y=>?_) (fun H2 h=>?_)
 ·obtain ⟨s2,kvs,hD2,hR,hl⟩:=h
  refine turn _ i x H2 H' kvs hi (s2.drop hD) y hR hl (fun k z H5 s5 r5=>?_) (fun H4 s4 r4=>⟨s2.trans s4.nil,kvs,s4.keep _ _ hD2 nmn,r4,by omega⟩)
  have hD5:=s5.keep _ _ hD2 nmn
  refine ⟨kvs,k,rfl,hD5,by omega,(s2.trans s5.nil).trans (SB.setD hD5 (by simp) _),_,upd_same,st _ _ _ _ (SB.setD hD5 (by simp) _) r5,?_⟩
  have:=length_putK kvs k z
  omega
 ·obtain ⟨s2,kvs,hD2,hR,hl⟩:=h
  exact done kvs H2 (s2.drop hD) hD2 hR hl
end
theorem z1j {kvs:List (Key × V)} {k:Key} {v:V} (h:∀ p ∈ kvs,p.1 ≠ k):putK kvs k v=kvs++[(k,v)]:=by
 unfold putK
 rw [if_neg]
 intro z
 obtain ⟨p,hp,e⟩:=List.any_eq_true.mp z
 exact h p hp (of_decide_eq_true e)
theorem Bk.nodup_at {b:Bk} (nd:b.names.Nodup) {i:Nat} {k:Kd} (h:b[i]?=some k):∀ j ∈ b.take i,j.n ≠ k.n:=by
 intro j hj e
 have e1:b.names=(b.take i).map (·.n)++(b.drop i).map (·.n):=by rw [<- List.map_append,List.take_append_drop]
 rw [e1] at nd
 exact (List.nodup_append.mp nd).2.2 j.n (List.mem_map.mpr ⟨j,hj,rfl⟩) k.n (List.mem_map.mpr ⟨k,List.mem_of_getElem? (i:=0) (by rw [List.getElem?_drop]; exact h),rfl⟩) e
theorem SB.setG {H:Hp} {p:Addr} {o:HO} {ps:List Addr} (h:H p=some o) (hp:p ∈ ps) (n1:∀ xs,o ≠ .tup xs) (n2:∀ u v,o ≠ .frz u v) (o':HO):SB ps H (upd H p o'):=by
 refine ⟨fun b u e n=>?_,fun b u e=>?_,fun b v u e=>?_,fun b e=>?_⟩
 ·rw [upd_ne (fun (z:b=p)=>n (by rw [z]; exact hp))]; exact e
 ·rw [upd_ne (fun (z:b=p)=>by subst z; rw [h] at e; exact n1 _ (Option.some.inj e))]; exact e
 ·rw [upd_ne (fun (z:b=p)=>by subst z; rw [h] at e; exact n2 _ _ (Option.some.inj e))]; exact e
 ·by_cases q:b=p
  ·subst q; rw [upd_same] at e; cases e
  ·rw [upd_ne q] at e; exact e
theorem z7s:∀ {b:Bk} {us:List V} {p:Key × V},p ∈ b.rowKV us->∃ j ∈ b,p.1=Sum.inr j.n
 | [],_,p,h=>by cases h
 | k::b,[],p,h=>by cases h
 | k::b,u::us,p,h=>by
  rcases List.mem_cons.mp (show p ∈ (Sum.inr k.n,u)::Bk.rowKV b us from h) with h | h
  ·exact ⟨k,mcs ..,by rw [h]⟩
  ·obtain ⟨j,hj,e⟩:=z7s h
   exact ⟨j,mcm _ hj,e⟩
def PuW (H:Hp) (p:Addr):Prop:=∃ x y:Int,H p=some (.lst [.int x,.int y])/\0<=x/\0<=y/\y < 2 ^ 62
theorem PuW.sb {H H':Hp} {p:Addr} (h:PuW H p) (e:SB [] H H'):PuW H' p:=by
 obtain ⟨x,y,h1,h2⟩:=h
 exact ⟨x,y,e.keep _ _ h1 nmn,h2⟩
theorem PuW.keep {H H':Hp} {p:Addr} {ps:List Addr} (h:PuW H p) (e:SB ps H H') (n:p ∉ ps):PuW H' p:=by
 obtain ⟨x,y,h1,h2⟩:=h
 exact ⟨x,y,e.keep _ _ h1 n,h2⟩
theorem PuW.new {H:Hp} {p q:Addr} (h:PuW H p) (n:H q=none) {o:HO}:PuW (upd H q o) p:=by
 obtain ⟨x,y,h1,h2⟩:=h
 exact ⟨x,y,by rw [upd_ne (ne_of_none h1 n)]; exact h1,h2⟩
theorem PuW.ne {H:Hp} {p q:Addr} (h:PuW H p) (n:H q=none):p ≠ q:=by
 obtain ⟨x,y,h1,h2⟩:=h
 exact ne_of_none h1 n
theorem PuW.some {H:Hp} {p:Addr} (h:PuW H p):∀ q ∈ [p],H q ≠ none:=fun q hq z=>by
 obtain ⟨x,y,h1,_⟩:=h
 rw [List.mem_singleton.mp hq,h1] at z
 cases z
/-- how many stand inside i,at all depths -/
def ziu (ws:List Nat) (c:Nat->Nat) (i j:Nat):Nat:=((List.range j).map fun k=>if ws.getD k 0=i then 1+c (k+2) else 0).sum
def cnt (ws:List Nat):Nat->Nat->Nat
 | 0,_=>0
 | f+1,i=>ziu ws (cnt ws f) i ws.length
theorem tot_filter (c:Tr × Int->Bool):∀ bs:List (Tr × Int),Gr.tot (bs.filter c)<=Gr.tot bs
 | []=>Nat.le_refl _
 | p::r=>by
  have:=tot_filter c r
  rw [List.filter_cons]
  split
  ·simp only [Gr.tot]; omega
  ·simp only [Gr.tot]; omega
theorem z8f {zs:List Str} (h:∀ z ∈ zs,z01 z):SeqAt.shaped (.list (zs.map .str))=true:=by
 have h1:PyData.canLayAll0 (zs.map .str)=true:=by
  induction zs with
  | nil=>simp [PyData.canLayAll0]
  | cons z r ih =>
   rw [List.map_cons,PyData.canLayAll0,ih fun y hy=>h y (mcm _ hy)]
   simp [PyData.canLay0,Gr.strOk_name (h z (mcs ..))]
 have h2:PyData.depthAll (zs.map .str)=0:=by
  clear h1 h
  induction zs with
  | nil=>simp [PyData.depthAll]
  | cons z r ih=>rw [List.map_cons,PyData.depthAll,ih]; simp [PyData.depth]
 unfold SeqAt.shaped
 rw [PyData.canLay0,h1,Bool.true_and]
 exact decide_eq_true (by simp only [PyData.depth,h2]; omega)
theorem zg1 (zs:List Str):PyData.eqv (.list (zs.map .str)) (.list [])=decide (zs=[]):=by
 cases zs with
 | nil=>decide +kernel
 | cons z r=>simp [PyData.eqv,PyData.eqvAll]
def fac:Nat->Nat
 | 0=>1
 | n+1=>(n+1)*fac n
theorem z9m:∀ n,0 < fac n
 | 0=>by decide
 | n+1=>Nat.mul_pos (by omega) (z9m n)
theorem z5y:∀ n a b,a+b=n->fac a*fac b ∣ fac n
 | 0,a,b,h=>by
  have h1:a=0:=by omega
  have h2:b=0:=by omega
  subst h1 h2; exact ⟨1,rfl⟩
 | n+1,a,b,h=>by
  cases a with
  | zero=>rw [show b=n+1 by omega]; exact ⟨1,by simp [fac]⟩
  | succ a =>
   cases b with
   | zero=>rw [show a+1=n+1 by omega]; exact ⟨1,by simp [fac]⟩
   | succ b =>
    have h1:=z5y n a (b+1) (by omega)
    have h2:=z5y n (a+1) b (by omega)
    have e:fac (n+1)=(a+1)*fac n+(b+1)*fac n:=by
     rw [<- Nat.add_mul,show a+1+(b+1)=n+1 by omega]; rfl
    rw [e]
    refine Nat.dvd_add ?_ ?_
    ·rw [show fac (a+1)*fac (b+1)=(a+1)*(fac a*fac (b+1)) by rw [fac]; exact Nat.mul_assoc _ _ _]
     exact Nat.mul_dvd_mul (Nat.dvd_refl _) h1
    ·rw [show fac (a+1)*fac (b+1)=(b+1)*(fac (a+1)*fac b) by rw [show fac (b+1)=(b+1)*fac b from rfl]; exact Nat.mul_left_comm _ _ _]
     exact Nat.mul_dvd_mul (Nat.dvd_refl _) h2
theorem z9e (s:Nat):∀ m,fac s ^ m ∣ fac (m*s)
 | 0=>by simp [fac]
 | m+1=>by
  rw [Nat.pow_succ]
  exact Nat.dvd_trans (Nat.mul_dvd_mul (z9e s m) (Nat.dvd_refl _)) (z5y _ _ _ (by rw [Nat.add_mul,Nat.one_mul]))
def prN:List Nat->Nat
 | []=>1
 | x::r=>x*prN r
theorem z28:∀ a b:List Nat,prN (a++b)=prN a*prN b
 | [],b=>by simp [prN]
 | x::r,b=>by rw [List.cons_append,prN,prN,z28 r b,Nat.mul_assoc]
theorem z76 (l:List Nat):∀ m,prN (List.replicate m l).flatten=prN l ^ m
 | 0=>rfl
 | m+1=>by rw [List.replicate_succ,List.flatten_cons,z28,z76 l m,Nat.pow_succ,Nat.mul_comm]
theorem za6:∀ {l:List Nat},(∀ x ∈ l,1<=x)->0 < prN l
 | [],_=>by decide
 | x::r,h=>Nat.mul_pos (h x (mcs ..)) (za6 fun y hy=>h y (mcm _ hy))
def Gr.szs:Gr->List Nat
 | .nil=>[]
 | .cons _ g m r=>(List.replicate m.toNat ((1+g.size).toNat::g.szs)).flatten++r.szs
theorem zcr {α:Type} (l:List α) (m:Nat):(List.replicate m l).flatten.length=m*l.length:=by simp
theorem Gr.szs_len {C:Int}:∀ {g:Gr},g.Ok C->((g.szs.length:Nat):Int)=g.size
 | .nil,_=>rfl
 | .cons k g m r,⟨h0,h1,h2,h3,h4,_⟩=>by
  have e1:=Gr.szs_len h1
  have e2:=Gr.szs_len h4
  show (((List.replicate m.toNat ((1+g.size).toNat::g.szs)).flatten++r.szs).length:Int)=m*(1+g.size)+r.size
  rw [List.length_append,zcr,List.length_cons,Int.natCast_add,Int.natCast_mul,e2,Int.natCast_add,e1,Int.toNat_of_nonneg (by omega)]
  show m*(g.size+1)+r.size=_
  rw [Int.add_comm g.size 1]
theorem Gr.szs_mem {C:Int}:∀ {g:Gr},g.Ok C->∀ x ∈ g.szs,1<=x/\(x:Int)<=g.size
 | .nil,_,x,h=>by cases h
 | .cons k g m r,⟨h0,h1,h2,h3,h4,_⟩,x,h=>by
  have e1:=Gr.szs_len h1
  have e2:=Gr.szs_len h4
  have hm:m*(1+g.size) ≥ 1*(1+g.size):=Int.mul_le_mul_of_nonneg_right h2 (by omega)
  have es:(Gr.cons k g m r).size=m*(1+g.size)+r.size:=rfl
  rcases List.mem_append.mp h with h | h
  ·obtain ⟨l,hl,hx⟩:=List.mem_flatten.mp h
   obtain ⟨_,rfl⟩:=List.mem_replicate.mp hl
   rcases List.mem_cons.mp hx with hx | hx
   ·subst hx; rw [es]; omega
   ·have:=Gr.szs_mem h1 x hx
    rw [es]; omega
  ·have:=Gr.szs_mem h4 x h
   rw [es]; omega
theorem Gr.szs_dvd {C:Int}:∀ {g:Gr},g.Ok C->prN g.szs ∣ fac g.size.toNat
 | .nil,_=>⟨1,rfl⟩
 | .cons k g m r,⟨h0,h1,h2,h3,h4,_⟩=>by
  have e1:=Gr.szs_len h1
  have e2:=Gr.szs_len h4
  have d1:=Gr.szs_dvd h1
  have d2:=Gr.szs_dvd h4
  have en:(Gr.cons k g m r).size.toNat=m.toNat*(1+g.size).toNat+r.size.toNat:=by
   show (m*(1+g.size)+r.size).toNat=_
   have:((m.toNat*(1+g.size).toNat:Nat):Int)=m*(1+g.size):=by rw [Int.natCast_mul,Int.toNat_of_nonneg (by omega),Int.toNat_of_nonneg (by omega)]
   omega
  rw [en]
  show prN ((List.replicate m.toNat ((1+g.size).toNat::g.szs)).flatten++r.szs) ∣ _
  rw [z28,z76,prN]
  have et:(1+g.size).toNat=g.size.toNat+1:=by omega
  have d3:(1+g.size).toNat*prN g.szs ∣ fac (1+g.size).toNat:=by
   rw [et]; exact Nat.mul_dvd_mul (Nat.dvd_refl _) d1
  have d4:((1+g.size).toNat*prN g.szs) ^ m.toNat ∣ fac (1+g.size).toNat ^ m.toNat:=by
   obtain ⟨c,hc⟩:=d3
   exact ⟨c ^ m.toNat,by rw [hc,Nat.mul_pow]⟩
  exact Nat.dvd_trans (Nat.mul_dvd_mul (Nat.dvd_trans d4 (z9e _ _)) d2) (z5y _ _ _ rfl)
section
variable {J:It} {n:Nat} {G:Hp->Prop} {Y:Nat->Hp->V->Hp->Prop}
theorem za0 (w:Walk J n G Y) (ps:List Addr) {g:TG} {tt:TT} {te:TE} {vs:List Nat} {σ:L2.St} {H:Hp} {D:Addr} {Qd:Hp->Prop} (hD:H D=none) (hps:∀ q ∈ ps,H q ≠ none) (hn:n < sizeLine) (R:Nat->List V->Hp->Prop) (h0:R 0 [] H) (hG:∀ H2,SB ps H H2->G H2)
  (st:∀ i us H2 H3,SB [D] H2 H3->R i us H2->R i us H3)
  (turn:∀ (Pv:Hp->Prop) i x H2 H' us,i < n->SB ps H H2->Y i H2 x H'->R i us H2->us.length<=i->H2 D=some (.lst us)->(∀ y H5,SB ps H2 H5->R (i+1) (us++[y]) H5->∃ acc,H5 D=some (.lst acc)/\acc.length < sizeLine/\Pv (upd H5 D (.lst (acc++[y])))) ->
   (∀ H4,SB ps H2 H4->R (i+1) us H4->Pv H4)->g x (wipe σ vs) H' fun σ2 H3=>wipe σ2 vs=wipe σ vs/\tt σ2 H3 fun b H4 =>
    if b=true then te σ2 H4 fun y H5=>∃ acc,H5 D=some (.lst acc)/\acc.length < sizeLine/\Pv (upd H5 D (.lst (acc++[y]))) else Pv H4)
  (done:∀ us H2,SB ps H H2->H2 D=some (.lst us)->R n us H2->us.length<=n->Qd H2) :
  ∃ W:Nat->Nat->Hp->Prop,(∃ m,W 0 m (upd H D (.lst [])))/\∀ i m H,W i m H ->
   (J.stop i H/\Qd H)\/(J.go i H/\∃ Nx:Hp->Prop,(∀ H',Nx H'->∃ m',m' < m/\W (i+1) m' H')/\∀ x H',J.yld i H x H'->g x (wipe σ vs) H' fun σ2 H2=>wipe σ2 vs=wipe σ vs/\tt σ2 H2 fun b H3 =>
    if b=true then te σ2 H3 fun y H4=>∃ acc,H4 D=some (.lst acc)/\acc.length < sizeLine/\Nx (upd H4 D (.lst (acc++[y]))) else Nx H3):=by
 have nD:D ∉ ps:=fun z=>hps D z hD
 have up:∀ {H1 H2:Hp},SB ps H1 H2->SB (D::ps) H1 H2:=fun e=>e.mono fun b hb=>mcm _ hb
 have up1:∀ {H1 H2:Hp},SB [D] H1 H2->SB (D::ps) H1 H2:=fun e=>e.mono fun b hb=>by rw [List.mem_singleton.mp hb]; exact mcs ..
 refine lc_it w (fun i H2=>SB (D::ps) H H2/\∃ us,H2 D=some (.lst us)/\R i us H2/\us.length<=i) ⟨SB.new hD _,[],upd_same,st _ _ _ _ (SB.new hD _) h0,Nat.le_refl _⟩ (fun i H2 _ h=>hG H2 (h.1.drop hD)) (fun i x H2 H' hi h y=>?_) (fun H2 h=>?_)
 ·obtain ⟨s2,us,hD2,hR,hl⟩:=h
  refine turn _ i x H2 H' us hi (s2.drop hD) y hR hl hD2 (fun y H5 s5 r5=>?_) (fun H4 s4 r4=>⟨s2.trans (up s4),us,s4.keep _ _ hD2 nD,r4,by omega⟩)
  have hD5:=s5.keep _ _ hD2 nD
  refine ⟨us,hD5,by omega,(s2.trans (up s5)).trans (SB.set hD5 (by simp) _),_,upd_same,st _ _ _ _ (SB.set hD5 (by simp) _) r5,?_⟩
  rw [List.length_append,List.length_singleton]; omega
 ·obtain ⟨s2,us,hD2,hR,hl⟩:=h
  exact done us H2 (s2.drop hD) hD2 hR hl
end
def Kd.dat (k:Kd):PyData:=.tuple [.str k.n,.bool k.w,.list (k.rs.map Ru.enc)]
section
variable {K:PySem.W.Frag} {H H':Hp}
theorem z6m {α:Type} {enc:α->PyData}:∀ {vs:List V} {xs:List α},Bears K H enc vs xs->DpAll K H vs (xs.map enc)
 | _,_,.nil=>.nil
 | _,_,.cons h t=>.cons h (z6m t)
theorem KdAll.dp {bad:List Addr}:∀ {vs:List V} {b:Bk},KdAll K H bad vs b->DpAll K H vs (b.map Kd.dat)
 | _,_,.nil=>.nil
 | _,_,.cons ⟨t,l,zs,e,h1,h2,h3,_⟩ r=>by
  subst e
  exact .cons (.tup h1 (.cons (.str _) (.cons (.bl _) (.cons (.lst (SqL.of h2) (z6m h3)) .nil)))) (KdAll.dp r)
theorem KdAll.bad {bad:List Addr} (hb:∀ p ∈ bad,H p=none):∀ {vs:List V} {b:Bk},KdAll K H [] vs b->KdAll K H bad vs b
 | _,_,.nil=>.nil
 | _,_,.cons ⟨t,l,zs,e,h1,h2,h3,_⟩ r=>.cons ⟨t,l,zs,e,h1,h2,h3,fun z=>by rw [hb l z] at h2; cases h2⟩ (KdAll.bad hb r)
end
theorem z7x {n:Nat}:∀ {ds:List PyData},(∀ d ∈ ds,d.depth<=n)->PyData.depthAll ds<=n
 | [],_=>by simp [PyData.depthAll]
 | d::ds,h=>by
  have h1:=h d (mcs ..)
  have h2:=z7x fun x hx=>h x (mcm _ hx)
  rw [PyData.depthAll]; omega
mutual
theorem z98:∀ d:PyData,plS d=true->alike d d=true
 | .int _,_=>by simp [alike]
 | .str _,_=>by simp [alike]
 | .tuple ds,h=>by rw [alike]; exact z7l ds (by rw [plS] at h; exact h)
 | .none,h=>by simp [plS] at h
 | .bool _,h=>by simp [plS] at h
 | .list _,h=>by simp [plS] at h
 | .dict _,h=>by simp [plS] at h
theorem z7l:∀ ds:List PyData,plSs ds=true->alikeAll ds ds=true
 | [],_=>by simp [alikeAll]
 | d::ds,h=>by
  rw [plSs,Bool.and_eq_true] at h
  rw [alikeAll,z98 d h.1,z7l ds h.2]; rfl
end
theorem zbt {d:PyData} (h:plS d=true) (hd:d.depth<=64):SeqAt.shaped d=true:=by
 unfold SeqAt.shaped
 rw [za7 d h,Bool.true_and]
 exact decide_eq_true hd
open TL (tl)
def Ru.text (r:Ru):List Nat:=[32,62,32]++(r.1.text++([32,47,32]++r.2.text))
def Kd.mark (k:Kd):List Nat:=if k.w=true then [32,42] else []
def Kd.text (k:Kd):List Nat:=tl k.n++(k.mark++(k.rs.map Ru.text).flatten)
def Bk.text (b:Bk):List Nat:=TL.joinL [59,32] (b.map Kd.text)
/-- a step,the rest behind it known by what it needs -/
theorem z7e {t rest:TS} {D:Ends} {σ:L2.St} {H:Hp} (R:L2.St->Hp->Prop) (h:∀ nx:L2.St->Hp->Prop,(∀ σ' H',R σ' H'->nx σ' H')->t { D with nx:=nx } σ H) (k:∀ σ' H',R σ' H'->rest D σ' H'):tSeq t rest D σ H:=h (rest D) k
theorem z09 {i:Nat} {v:V} {σ:L2.St} {H:Hp} {f:L2.St->Hp->Prop} {r:VK} {b c:L2.St->Hp->Prop} (h:f (σ.set i (some v)) H):gName i v σ H (Ends.mk f r b c).nx:=h
theorem Bk.Ok.two {b:Bk} (ok:b.Ok):∀ k ∈ b,k.rs.length<=4/\∀ r ∈ k.rs,RuOk r:=fun k hk=>⟨(ok.kd k hk).2.1,fun r hr=>((ok.kd k hk).2.2 r hr).1⟩
theorem Bk.Ok.three {b:Bk} (ok:b.Ok):∀ k ∈ b,z01 k.n/\∀ r ∈ k.rs,RuOk r:=fun k hk=>⟨(ok.kd k hk).1,(ok.two k hk).2⟩
theorem zba {K:PySem.W.Frag} {C B:Addr} {b:Bk} {H:Hp} {l:Addr} {xs:List V} {bad:List Addr} {Q:VK} {E:XK} (hl:H l=some (.lst xs)) (ha:KdAll K H bad xs b) (ok:b.Ok) (k:∀ y H',SB [] H H'->H y=none->BkA K C H' (.ref y) b->Q (.ref y) H') :
  ∀ y dx,H y=none->H dx=none->dx ≠ y->z59 K C B (.ref y::[.ref l]) (upd (upd H dx (.own y)) y (.ins C dx [])) (fun v H2=>v=.non/\Q (.ref y) H2) E:=by
 intro y dx hy hdx hne
 have b8:=ok.len
 have hy':upd H dx (.own y) y=none:=by rw [upd_ne (fun z=>hne z.symm)]; exact hy
 have t4:=(SB.new (ps:=[]) hdx (.own y)).trans (SB.new hy' (.ins C dx []))
 have hdx4:upd (upd H dx (.own y)) y (.ins C dx []) dx=some (.own y):=by rw [upd_ne hne,upd_same]
 have hx4:upd (upd H dx (.own y)) y (.ins C dx []) y=some (.ins C dx []):=upd_same
 refine ⟨y,dx,l,xs,b.map Kd.kt,rfl,hx4,hdx4,t4.keep _ _ hl nmn,(ha.sb t4 NoLst.nil).kt ok.three,fun t ht=>?_,by rw [List.length_map]; omega,fun b' e ok' H5 s5 hbk=>?_,fun z=>absurd ⟨b,rfl,ok⟩ z⟩
 ·obtain ⟨k,hk,rfl⟩:=List.mem_map.mp ht
  exact zd1 (ok.two k hk)
 ·have e:=z75 e
  subst e
  exact ⟨rfl,k y H5 (((t4.nil (ps:=[y])).trans s5).drop hy) hy hbk⟩
theorem zbh {x:Int} {a b:Nat} (h:x.natAbs < 2 ^ a) (hb:a<=b) (h0:0 < a):x.natAbs.log2 < b:=by
 by_cases e:x.natAbs=0
 ·rw [e]; simp [Nat.log2_zero]; omega
 ·exact Nat.lt_of_lt_of_le ((Nat.log2_lt e).mpr h) hb
open TL (tl)
def Ru.tail (r:Ru):List Nat:=r.1.text++([32,47,32]++r.2.text)
def Kd.head (k:Kd):List Nat:=tl k.n++k.mark
theorem Shows.inj {z:Str} {g k:Gr} (h:Shows z g) (h':Shows z k):k=g:=by
 by_cases e:g=.nil
 ·subst e
  exact z7u h'.ok (by rw [<- h'.tx,h.tx]; rfl)
 ·by_cases e':k=.nil
  ·subst e'
   exact absurd (z7u h.ok (by rw [<- h.tx,h'.tx]; rfl)) e
  ·have a:=h.read e
   have b:=h'.read e'
   rw [a] at b
   injection b with b
   injection b with b _
   rw [<- Gr.ofPs_ps k,<- Gr.ofPs_ps g,b]
structure InsC (K:PySem.W.Frag) (mg:Str->Option Value) (n:Str) (C:Addr):Prop where
 c:Cls K C
 ha:PySem.W.findIn K (.ref C) "__class__"=some (some (.builtin "object.__class__"))
 hn:PySem.W.specialIn K (.builtin "object.__class__") "__get__"=some (some (.builtin "getset_descriptor.__get__"))
 htk:PySem.W.takesIn K (.builtin "object.__class__")=some true
 hm:PySem.W.mroIn K C (.type "object")=some true
 g:mg n=some (.ref C)
theorem InsC.ty {K:PySem.W.Frag} {mg:Str->Option Value} {n:Str} {C a dx:Addr} {H:Hp} {fs:List (Str × V)} (i:InsC K mg n C) (h:H a=some (.ins C dx fs)):TyX K H (.ref a) (.ref C):=.base (.ins h i.c i.ha i.hn i.htk i.hm)
open PySem.Froz (SD sObj TxOk addTx tailTx)
/-- the payload D holds the texts l,each once,and its table rises -/
structure TxS (P:Program) (w:World) (D:SD) (l:List Str):Prop where
 ok:TxOk P w D l
 nd:l.Nodup
 ris:Ris D.2.2.place.toList
 led:w.params.followText "set-order"=true\/D.2.2.led=true
/-- the texts,one more -/
def insS (k:Str) (l:List Str):List Str:=if k ∈ l then l else k::l
section
variable {P:Program} {w:World} {A:Around} {E:Value->Shared->Prop} {s:Shared} {D:SD} {l:List Str} {k:Str} {u:Tok} {a:Addr} {T:String}
theorem zbg {es:Array (Int × Value)} {ep:Nat} {t:SetTable} {b:Bool} (r:Ris t.place.toList) (d:w.params.followText "set-order"=true\/t.led=true) :
  Ris (tailTx ep es t b).2.2.place.toList/\(w.params.followText "set-order"=true\/(tailTx ep es t b).2.2.led=true):=by
 unfold tailTx
 split
 ·exact ⟨relayAll_ris ..,d.imp id fun z=>by rw [relayAll_led]; exact z⟩
 ·exact ⟨r,d⟩
theorem TxS.add (F:TxS P w D l) (hk:k ∉ l):TxS P w (addTx (hashStr w k) (.str k u) D) (k::l):=by
 obtain ⟨es,ep,t⟩:=D
 have r1:=layNew_ris t es (hashStr w k) (.str k u) F.ris
 have d1:=F.led.imp id fun z=>(layNew_led t es (hashStr w k) (.str k u)).trans z
 have key:∀ t':SetTable,t'.place=(layNew t es (hashStr w k) (.str k u)).2.1.place->t'.led=(layNew t es (hashStr w k) (.str k u)).2.1.led->∀ es' b,Ris (tailTx ep es' t' b).2.2.place.toList/\(w.params.followText "set-order"=true\/(tailTx ep es' t' b).2.2.led=true) :=
  fun t' e1 e2 es' b=>zbg (by rw [e1]; exact r1) (by rw [e2]; exact d1)
 have z:=key (if (layNew t es (hashStr w k) (.str k u)).2.1.plain=true then { (layNew t es (hashStr w k) (.str k u)).2.1 with plain:=false } else (layNew t es (hashStr w k) (.str k u)).2.1) (by split <;> rfl) (by split <;> rfl) (layNew t es (hashStr w k) (.str k u)).1 (layNew t es (hashStr w k) (.str k u)).2.2.1
 exact ⟨PySem.Froz.add_ok u F.ok,List.nodup_cons.mpr ⟨hk,F.nd⟩,z.1,z.2⟩
/-- a text that is there -/
theorem zb3 {Q:Bool->Shared->Prop} (ho:s.heap.get? a=some (sObj T D)) (F:TxOk P w D l) (hk:k ∈ l) (hb:l.length < scanBound) (h:Q false s):wpAny (model P w) A (setAddHashed a (.str k u) (hashStr w k)) Q E s:=by
 obtain ⟨es,ep,t⟩:=D
 have hd:(sObj T (es,ep,t)).data=.set es ep t:=rfl
 have hel:ElemsOf (strKind P w) es.toList:=F.el
 have hsz:es.size=l.length:=F.sz
 have is0:(strKind P w).is k (.str k u)=true:=PySem.Froz.is_str k u
 obtain ⟨j,hj⟩:∃ j,List.findIdx? (fun e=>(strKind P w).is k e.2) es.toList=some j:=by
  cases e:List.findIdx? (fun e=>(strKind P w).is k e.2) es.toList with
  | some j=>exact ⟨j,rfl⟩
  | none =>
   obtain ⟨x,hx,hi⟩:=(F.mem k).mp hk
   have:=List.findIdx?_eq_none_iff.mp e x hx
   rw [hi] at this
   cases this
 unfold setAddHashed setAddHashedIn
 refine wpAny_holding (wpAny_bind (wpAny_setState_of ho hd F.fit ?_))
 dsimp only
 rw [byScan_of rfl (by rw [hsz]; exact hb) hel]
 simp only [↓reduceIte]
 unfold setAddByScan
 refine wpAny_bind (wpAny_bind (wpAny_rule (wpAny_bind (wpAny_setScan_of (knd:=strKind P w) (k:=k) is0 ho hd F.fit hel ?_))))
 rw [hj]
 exact wpAny_pure (wpAny_pure h)
theorem zfd {Q:Bool->Shared->Prop} (ho:s.heap.get? a=some (sObj T D)) (F:TxS P w D l) (hb:l.length+1 < scanBound)
  (h:∀ (b:Bool) (h':Heap) (D':SD),Heap.SameBut a s.heap h'->h'.get? a=some (sObj T D')->TxS P w D' (insS k l)->Q b { s with heap:=h' }):wpAny (model P w) A (setAddHashed a (.str k u) (hashStr w k)) Q E s:=by
 by_cases hk:k ∈ l
 ·refine zb3 ho F.ok hk (by omega) (h false s.heap D (Heap.SameBut.refl a s.heap) ho ?_)
  unfold insS
  rw [if_pos hk]
  exact F
 ·refine PySem.Froz.add_x ho F.ok hk hb (h true _ _ (Heap.SameBut.update ..) (PySem.Froz.get_upd _ ho rfl) ?_)
  unfold insS
  rw [if_neg hk]
  exact F.add hk
end
section
variable {P:Program} {w:World} {A:Around} {E:Value->Shared->Prop} {s:Shared} {D:SD} {l:List Str} {k:Str} {u:Tok} {a:Addr}
theorem zd3 {Q:Value->Shared->Prop} (ho:s.heap.get? a=some (sObj "set" D)) (F:TxS P w D l) (hb:l.length+1 < scanBound)
  (h:∀ (h':Heap) (D':SD),Heap.SameBut a s.heap h'->h'.get? a=some (sObj "set" D')->TxS P w D' (insS k l)->Q .none { s with heap:=h',toks:=s.toks+1 }):wpAny (model P w) A (call (.builtin "set.add") [.ref a,.str k u]) Q E s:=by
 refine wpAny_call_entry PySem.F.slot_set_add ⟨_,ho,rfl⟩ PySem.F.entry_set_add ?_ (PySem.F.args_set_add_2 _ _)
 unfold Builtin.«set.add» Builtin.Frozenset.oneOther
 simp only [List.isEmpty_nil,bind_assoc]
 unfold Builtin.Frozenset.addrOf setAdd
 refine wpAny_bind (wpAny_pure ?_)
 try dsimp only
 refine wpAny_bind (wpAny_pure ?_)
 try dsimp only
 refine wpAny_bind (wpAny_holding (wpAny_bind ((strKind P w).pyHash (k:=k) (PySem.Froz.is_str k u) ?_)))
 refine zfd (s:={ s with toks:=s.toks+1 }) ho F hb fun b h' D' sb o' F'=>?_
 refine (?_:wpAny (model P w) _ (ret Value.none) _ E _)
 exact wpAny_pure ⟨_,rfl,h h' D' sb o' F'⟩
end
def SetSO (P:Program) (w:World) (a:Addr) (l:List Str):HO:=.ext fun h=>∃ D:SD,h.get? a=some (sObj "set" D)/\TxS P w D l
theorem z7r {P:Program} {w:World} {H:Hp} {h:Heap} {a:Addr} {l:List Str} {D:SD} (ho:h.get? a=some (sObj "set" D)) (F:TxS P w D l):ObjOk P w H h a (SetSO P w a l) :=
 ⟨⟨D,ho,F⟩,⟨_,ho⟩,fun h1 h2 ⟨D',q,F'⟩ k=>⟨D',k _ q,F'⟩⟩
section
variable {X:Cx} {pins:List (Addr × Obj)} {σ:L2.St} {H:Hp} {s:Shared} {l:List Str}
theorem z7j {a:Addr} (I:Inv X pins σ H s) (ha:H a=some (SetSO X.prog X.w a l)):∃ D:SD,s.heap.get? a=some (sObj "set" D)/\TxS X.prog X.w D l:=(I.hok a _ ha).1
theorem zfv {E:Value->Shared->Prop} {a:Addr} {k:Str} {u:Tok} {Q:Value->Shared->Prop} (I:Inv X pins σ H s) (ha:H a=some (SetSO X.prog X.w a l)) (room:l.length+1 < scanBound)
  (h:∀ s',Inv X pins σ (upd H a (SetSO X.prog X.w a (insS k l))) s'->Q .none s'):wpAny (model X.prog X.w) X.A (call (.builtin "set.add") [.ref a,.str k u]) Q E s:=by
 obtain ⟨D,ho,F⟩:=z7j I ha
 refine zd3 ho F room fun h' D' sb o' F'=>?_
 exact h _ (I.write (e:=a) (t':=s.toks+1) (by rw [ha]; trivial) (.inl rfl) (fun b o hb hu=>(sb.2 b hb).trans hu) ⟨_,o'⟩ (z7r o' F'))
end
theorem zb2 (P:Program) (w:World):TxS P w (#[],0,.fresh 0 0 (!w.params.followText "set-order")) []:=by
 refine ⟨PySem.Froz.TxOk.nil rfl,List.nodup_nil,List.Pairwise.nil,?_⟩
 show _\/(!w.params.followText "set-order")=true
 cases w.params.followText "set-order"
 ·exact .inr rfl
 ·exact .inl rfl
theorem z86 {P:Program} {w:World} {k:Str} {v:Value} (h:(strKind P w).is k v=true):∃ tk,v=Value.str k tk:=by
 have h:Value.isStrOf k v=true:=h
 cases v <;> simp [Value.isStrOf] at h
 exact ⟨_,by rw [h]⟩
theorem za2:∀ (l:List Value),(∀ v ∈ l,∃ k tk,v=Value.str k tk)->∃ ss:List Str,StrsAre l ss/\∀ k,k ∈ ss ↔ ∃ v ∈ l,∃ tk,v=Value.str k tk
 | [],_=>⟨[],.nil,fun k=>by simp⟩
 | v::r,h=>by
  obtain ⟨k,tk,rfl⟩:=h v (mcs ..)
  obtain ⟨ss,h1,h2⟩:=za2 r fun x hx=>h x (mcm _ hx)
  refine ⟨k::ss,.cons k tk h1,fun j=>?_⟩
  rw [List.mem_cons,h2 j]
  refine ⟨fun z=>?_,fun ⟨x,hx,t',e⟩=>?_⟩
  ·rcases z with rfl | ⟨x,hx,e⟩
   ·exact ⟨_,mcs ..,tk,rfl⟩
   ·exact ⟨x,mcm _ hx,e⟩
  ·rcases List.mem_cons.mp hx with q | q
   ·rw [q] at e; cases e; exact .inl rfl
   ·exact .inr ⟨x,q,t',e⟩
/-- lists with the same members,one without doubles and no longer -/
theorem z9z {α:Type}:∀ {a b:List α},b.Nodup->a.length=b.length->(∀ k,k ∈ b->k ∈ a)->a.Perm b
 | a,[],_,hl,_=>by
  have:a=[]:=List.eq_nil_of_length_eq_zero hl
  rw [this]
 | a,x::b,nd,hl,hm=>by
  obtain ⟨p,q,e⟩:=List.append_of_mem (hm x (mcs ..))
  subst e
  obtain ⟨n1,n2⟩:=List.nodup_cons.mp nd
  have ih:=z9z (a:=p++q) (b:=b) n2 (by simp at hl ⊢; omega) fun k hk=>by
   have hx:k ≠ x:=fun z=>n1 (z ▸ hk)
   have:=hm k (mcm _ hk)
   simp only [List.mem_append,List.mem_cons] at this ⊢
   rcases this with z | z | z
   ·exact .inl z
   ·exact absurd z hx
   ·exact .inr z
  exact List.perm_middle.trans (ih.cons x)
section
variable {P:Program} {w:World} {A:Around} {E:Value->Shared->Prop} {s:Shared} {D:SD} {l:List Str} {a:Addr}
theorem zai {Q:Value->Shared->Prop} (hh:A.handled=none) (ho:s.heap.get? a=some (sObj "set" D)) (F:TxS P w D l) (h64:l.length < 64)
  (h:∀ (s':Shared) (p:Addr) (out:Array Value) (c:Nat) (ss:List Str),(∀ b o,s.heap.get? b=some o->s'.heap.get? b=some o)->s'.gens=s.gens->s'.os=s.os->s.heap.objs.size<=p->s'.heap.get? p=some (seqObj "list" out c)->StrsAre out.toList ss->ss.Perm l->sortedS ss=true->Q (.ref p) s') :
  wpAny (model P w) A (call (.builtin "sorted") [.ref a]) Q E s:=by
 obtain ⟨es,ep,t⟩:=D
 have hsz:es.size=l.length:=F.ok.sz
 have hsc:es.size < scanBound:=by rw [hsz]; unfold scanBound; omega
 refine Calls.call_function_entry kind_sorted plain_sorted entry_sorted (args_sorted1 _) ?_
 unfold Builtin.«sorted»
 refine wpAny_bind (m:=checkCount "sorted" 1 1 _) (wpAny_pure ?_)
 refine wpAny_bind (collect_set (A:=A.in1) hh ⟨_,ho,rfl,rfl⟩ F.ok.fit hsc F.ris F.led fun s1 vs k1 z1 g1 o1 pm=>?_)
 have vl:vs.length=l.length:=by rw [pm.length_eq,List.length_map,Array.length_toList,hsz]
 have shape:∀ v ∈ vs,∃ k tk,v=Value.str k tk:=fun v hv=>by
  obtain ⟨e,he,rfl⟩:=List.mem_map.mp (pm.mem_iff.mp hv)
  obtain ⟨⟨k,hk,_⟩,_⟩:=F.ok.el e he
  obtain ⟨tk,q⟩:=z86 hk
  exact ⟨k,tk,q⟩
 obtain ⟨ss,hS,hmem⟩:=za2 vs shape
 have hp:ss.Perm l:=by
  refine z9z F.nd (by rw [<- hS.length]; exact vl) fun k hk=>?_
  obtain ⟨e,he,hi⟩:=(F.ok.mem k).mp hk
  obtain ⟨tk,q⟩:=z86 hi
  exact (hmem k).mpr ⟨e.2,pm.mem_iff.mpr (List.mem_map_of_mem he),tk,q⟩
 refine wpAny_bind (wpAny_newList ?_ (by rw [vl,sizeLine_eq]; omega))
 have at1:(s1.heap.push (seqObj "list" vs.toArray 0)).get? s1.heap.objs.size=some (seqObj "list" vs.toArray 0):=Heap.get?_push_size _ rfl
 refine wpAny_bind (wpAny_holding (wpAny_call_entry slot_list_sort ⟨_,at1,rfl⟩ entry_list_sort (list_sort_treeK strKind_oneLt at1 hS.keysOf (fun v1 v2 r e=>keyKind_strs (by rw [<- e]; exact hS)) (by rw [vl]; exact h64) fun st' p1 p2=>⟨_,rfl,?_⟩) (args_list_sort _)))
 obtain ⟨ss',q1,q2,q3⟩:=sorted_out_str hS p1 p2
 obtain ⟨c,hc⟩:=sortedHeap_at (vs:=vs) (out:=(arrOf st').map (·.2)) at1
 refine wpAny_pure ⟨_,rfl,h _ s1.heap.objs.size _ c ss' (fun b o e=>?_) g1 o1 z1 hc q1 (q2.trans hp) q3⟩
 have e1:=k1 b o e
 have lt:=Heap.lt_size e1
 show (sortedHeap (s1.heap.push (seqObj "list" vs.toArray 0)) s1.heap.objs.size vs _).get? b=some o
 rw [sortedHeap_old (Nat.ne_of_lt lt) (by rw [size_push']; exact Nat.lt_succ_of_lt lt)]
 exact Heap.get?_push_of_some _ e1
end
section
variable {X:Cx}
def zb4 (P:Program) (w:World):List V->Hp->VK->Prop:=fun vs H Q=>∃ (a:Addr) (l:List Str),vs=[.ref a]/\H a=some (SetSO P w a l)/\l.length < 64/\∀ (ss:List Str) (p:Addr),ss.Perm l->sortedS ss=true->H p=none->Q (.ref p) (upd H p (.lst (ss.map V.str)))
theorem z9j (hc:X.calm=true):CallR X (.builtin "sorted") (zb4 X.prog X.w):=by
 intro pins s σ H vs us Q I r h
 obtain ⟨a,l,rfl,ha,h64,q⟩:=h
 obtain ⟨D,ho,F⟩:=z7j I ha
 rw [Vals.ref1 r]
 refine zai (I.ok.hd hc) ho F h64 fun s' p out c ss kp eg eo hp at' hS pm srt=>?_
 have hn:H p=none:=I.hok.fresh hp
 have hz:(ss.map V.str).length<=sizeLine:=by rw [List.length_map,pm.length_eq,sizeLine_eq]; omega
 obtain ⟨h',g',d',tk',os'⟩:=s'
 have eo:os'=s.os:=eo
 subst eo
 exact ⟨.ref p,upd H p (.lst (ss.map V.str)),I.call (ch:=[]) (Un.laid kp hp hn) (I.hok.laid kp hp ⟨hz,out.toList,c,vals_of_strs hS,at'⟩) (by rw [show g'=s.gens from eg]; exact I.bare) (fun _ z=>nomatch z),rfl,q ss p pm srt hn⟩
end
section
variable {X:Cx}
def tScS (P:Program) (w:World) (wi:TI) (g:TG) (tt:TT) (te:TE) (vs:List Nat):TE:=fun σ H Q=>wi σ H fun J H1=>∀ D,H1 D=none->∃ W:Nat->Nat->Hp->Prop,(∃ m,W 0 m (upd H1 D (SetSO P w D [])))/\∀ i m Hi,W i m Hi ->
 (J.stop i Hi/\Q (.ref D) Hi)\/(J.go i Hi/\∃ Nx:Hp->Prop,(∀ H',Nx H'->∃ m',m' < m/\W (i+1) m' H')/\∀ x H',J.yld i Hi x H'->g x (wipe σ vs) H' fun σ2 H2=>wipe σ2 vs=wipe σ vs/\tt σ2 H2 fun b H3 =>
  if b=true then te σ2 H3 fun y H4=>∃ (z:Str) (l:List Str),y=.str z/\H4 D=some (SetSO P w D l)/\l.length+1 < scanBound/\Nx (upd H4 D (SetSO P w D (insS z l))) else Nx H3)
theorem zi4 {elt tg iter:Expr} {ifs:List Expr} {scope:Scope} {own:List (PySem.Str × Nat)} {pos:Pos} {wi:TI} {g:TG} {tt:TT} {te:TE} (hc:X.calm=true) (hN:X.N.Nodup) (hi:PI X tg iter wi) (ok:BlkOk X.N X.env.scope scope own)
  (hg:∀ (s1:Shared) (H1:Hp) (C:Addr) (cl:List (PySem.Str × Addr)) (fp:List Addr),L2.PG (X.blk s1 H1 scope (compEnvC scope cl C X.env) fp) tg g) (ht:∀ (s1:Shared) (H1:Hp) (C:Addr) (cl:List (PySem.Str × Addr)) (fp:List Addr),L2.PTs (X.blk s1 H1 scope (compEnvC scope cl C X.env) fp) ifs tt)
  (he:∀ (s1:Shared) (H1:Hp) (C:Addr) (cl:List (PySem.Str × Addr)) (fp:List Addr),L2.PE (X.blk s1 H1 scope (compEnvC scope cl C X.env) fp) elt te) (hs:∀ x,foldedSetIterable iter X.env x=pure x:=by intro _; rfl) :
  PE X (.SetComp elt [⟨tg,iter,ifs,0⟩] scope pos) (tScS X.prog X.w wi g tt te (own.map (·.2))):=by
 refine ⟨fun pins s σ H Q I h=>?_⟩
 rw [PpSet.eval_SetComp]
 have clo:∀ y ∈ scope.names,y.2=.free->∃ c,X.env.cells.lookup y.1=some c:=fun y hy e=>(ok.free y hy e).elim (fun k=>I.ok.has _ (.inl k)) fun k=>I.ok.has _ (.inr k)
 refine wpAny_comprehension_free (use:=none) rfl hs (closure_ok clo) ok.kind (fun y hy e=>by rw [ok.uniq y hy,e]) (thn (hi.run pins s σ H _ I h) fun xv s1 hx=>thn hx fun itv s2 got=>?_)
 obtain ⟨it,fp,tn,J,Ha,e0,Ia,Tn,sta,fpa,walk⟩:=got
 subst e0
 refine PpSet.newSet_ok (newEnv_comp ?_)
 -- the new set,at the heap's end
 generalize eD:s2.heap.objs.size=D
 have freeD:Ha D=none:=Ia.hok.fresh (Nat.le_of_eq eD)
 obtain ⟨W,⟨m0,w0⟩,turn⟩:=walk D freeD
 generalize eb:({ s2 with heap:=s2.heap.push { cls:=.type "set",dict:=none,data:=.set #[] 0 (.fresh 0 0 (!X.w.params.followText "set-order")) } }:Shared)=sb
 have hpb:sb.heap=s2.heap.push { cls:=.type "set",dict:=none,data:=.set #[] 0 (.fresh 0 0 (!X.w.params.followText "set-order")) }:=by rw [<- eb]
 have Ib:Inv X pins σ (upd Ha D (SetSO X.prog X.w D [])) sb:=by
  rw [<- eb]
  refine Ia.laid (t':=s2.toks) (fun b o e=>Heap.get?_push_of_some _ e) (Nat.le_of_eq eD) ?_
  rw [<- eD]
  exact z7r (Heap.get?_push_size _ rfl) (zb2 X.prog X.w)
 have low:∀ b ∈ fp,b < s2.heap.objs.size:=fun b hb=>let ⟨o,e,_⟩:=Tn.obj _ _ sta b hb; Heap.lt_size e
 have fpb:∀ b ∈ fp,FpOk X pins (upd Ha D (SetSO X.prog X.w D [])) b/\b < sb.heap.objs.size:=fun b hb=>by
  refine ⟨⟨?_,(fpa b hb).2⟩,by rw [hpb,Heap.size_push]; exact Nat.lt_succ_of_lt (low b hb)⟩
  rw [upd_ne (by rw [<- eD]; exact Nat.ne_of_lt (low b hb))]
  exact (fpa b hb).1
 have stb:tn 0 sb.heap:=Tn.keep _ _ _ sta fun b _ o e=>by rw [hpb]; exact Heap.get?_push_of_some _ e
 have Ic:=block_start Ib ok hN fpb
 generalize eHb:upd Ha D (SetSO X.prog X.w D [])=Hb at Ib Ic w0 fpb
 have pg:=hg sb Hb sb.heap.objs.size (cellsFrom (sb.heap.objs.size+1) scope.names (cloFrom X.env.cells scope.names [])) fp
 have pt:=ht sb Hb sb.heap.objs.size (cellsFrom (sb.heap.objs.size+1) scope.names (cloFrom X.env.cells scope.names [])) fp
 have pe:=he sb Hb sb.heap.objs.size (cellsFrom (sb.heap.objs.size+1) scope.names (cloFrom X.env.cells scope.names [])) fp
 show codeAny (model X.prog X.w) X.A (.compStart (.SetComp elt [⟨tg,iter,ifs,0⟩] scope pos) 0 (.ref it) (.ref D) (compEnvC scope (cellsFrom (sb.heap.objs.size+1) scope.names (cloFrom X.env.cells scope.names [])) sb.heap.objs.size X.env)) (compPost (model X.prog X.w) X.A X.xe none (EP X pins σ Q) (.ref D) sb.heap.objs.size) { sb with heap:=pushCells (sb.heap.push { cls:=.type "dict",data:=.dict #[] }) scope.names }
 have noneF:∀ b ∈ fp,Hb b=none:=fun b hb=>(fpb b hb).1.1
 generalize ece:compEnvC scope (cellsFrom (sb.heap.objs.size+1) scope.names (cloFrom X.env.cells scope.names [])) sb.heap.objs.size X.env=ce at Ic pg pt pe ⊢
 have ecl:ce.locals=sb.heap.objs.size:=by subst ece; rfl
 generalize esc:({ sb with heap:=pushCells (sb.heap.push { cls:=.type "dict",data:=.dict #[] }) scope.names }:Shared)=sc at Ic ⊢
 have stc:tn 0 sc.heap:=Tn.keep _ _ _ stb fun b _ o e=>by rw [<- esc]; exact pushCells_keeps _ _ _ _ (Heap.get?_push_of_some _ e)
 -- the block's context
 let XB:Cx:=X.blk sb Hb scope ce fp
 have still:∀ {τ:L2.St} {G:Hp} {t:Shared},Inv XB [] τ G t->(∀ b ∈ fp,G b=none)->∀ b ∈ fp,FpOk XB [] G b:=fun {τ G t} I' hn b hb =>
  ⟨hn b hb,(I'.ok.exf b hb).1,I'.ok.exfs b hb,.inl hb,fun x c e=>(I'.ok.exf b hb).2 x c e,fun p hp=>absurd (show p ∈ ([]:List (Addr × Obj))++[] from hp) (by simp)⟩
 have loop:codeAny (model X.prog X.w) X.A (.compLoop (.SetComp elt [⟨tg,iter,ifs,0⟩] scope pos) 0 (.ref it) (.ref D) ce) (compPost (model X.prog X.w) X.A X.xe none (EP X pins σ Q) (.ref D) sb.heap.objs.size) sc:=by
  refine PpSet.compLoopS_any (fun n t=>∃ i G,Inv XB [] (wipe σ (own.map (·.2))) G t/\tn i t.heap/\(∀ b ∈ fp,G b=none)/\W i n G) ?_ m0 ⟨0,Hb,Ic,stc,noneF,w0⟩
  rintro n t ⟨i,G,It,stt,nt,wt⟩
  rcases turn i n G wt with ⟨ends,qq⟩ | ⟨goes,Nx,hNx,step⟩
  ·refine thnF (Tn.done XB rfl rfl rfl hc i [] t _ G (fun _ _=>False) It (still It nt) stt ends) fun r t6 ⟨er,I6⟩=>?_
   subst er
   have I7:Inv X pins σ G t6:=Ib.call' (ch:=fp) I6.os I6.base I6.hok I6.bare fun b hb=>⟨(fpb b hb).1.2.2.2.1,(fpb b hb).1.2.1,(fpb b hb).1.2.2.2.2.1,(fpb b hb).1.2.2.2.2.2⟩
   have nC:G sb.heap.objs.size=none:=ecl ▸ (show G ce.locals=none from I6.free)
   obtain ⟨m,hn,_⟩:=I6.loc
   have hn:t6.heap.Ns sb.heap.objs.size m:=ecl ▸ (show t6.heap.Ns ce.locals m from hn)
   obtain ⟨f0,f1,f2,f3,f4,f5⟩:=Ib.fpOk (Nat.le_refl _) nC
   exact ⟨m,hn,fun h'' same=>⟨.ref D,G,I7.turned (t':=t6.toks) (fun b o hb e=>(same.2 b hb).trans e) f0 f1 f3 f4 f5,rfl,qq⟩⟩
  ·refine thnF (Tn.item XB rfl rfl rfl hc i [] t _ G (fun _ _=>False) It (still It nt) stt goes) fun r t6 ⟨u,er,h6⟩=>?_
   subst er
   refine thnF h6 fun _ t7 ⟨x,G7,I7,r7,y7,st7,n7⟩=>?_
   have P7:=I7.pinned (still I7 n7) (Tn.obj _ _ st7)
   refine thnF (pg.run _ t7 _ G7 x u _ P7 r7 (step x G7 y7)) fun _ t8 ⟨τ,G8,I8,hw,q8⟩=>?_
   refine thnF (pt.run _ t8 τ G8 _ I8 q8) fun b t9 ⟨G9,I9,q9⟩=>?_
   have back:∀ {t':Shared} {G':Hp},Inv XB ([]++pinsAt fp t7.heap) τ G' t'->Nx G'->∃ m,m < n/\∃ i G,Inv XB [] (wipe σ (own.map (·.2))) G t'/\tn i t'.heap/\(∀ b ∈ fp,G b=none)/\W i m G:=fun {t' G'} I' nx=>by
    obtain ⟨m',hm,w'⟩:=hNx G' nx
    have keep:∀ b ∈ fp,∀ o,t7.heap.get? b=some o->t'.heap.get? b=some o/\G' b=none:=fun b hb o e =>
     have z:=I'.pin (b,o) (mar _ (mar _ (mem_pinsAt hb e)))
     ⟨z.1,z.2.1⟩
    refine ⟨m',hm,i+1,G',(I'.unpinned (pins:=[])).weak (by rw [<- hw,wipe_length]) (fun j v e=>(wipe_some (hw ▸ e)).1),Tn.keep _ _ _ st7 fun b hb o e=>(keep b hb o e).1,fun b hb=>?_,w'⟩
    obtain ⟨o,e,_⟩:=Tn.obj _ _ st7 b hb
    exact (keep b hb o e).2
   cases b with
   | false=>exact back I9 q9
   | true =>
    refine thnF (pe.run _ t9 τ G9 _ I9 q9) fun z t10 ⟨yv,G10,I10,r10,zz,l0,ey,hD10,room,nx⟩=>?_
    subst ey
    obtain ⟨tk,rfl⟩:=r10
    exact zfv (X:=XB) I10 hD10 room fun t11 I11=>back I11 nx
 exact PpSet.codeAny_compStart_set loop (Tn.self X.A 0 _ _ _ stc loop)
end
open PySem.Froz (SD sObj TxOk addTx tailTx)
theorem zc8 {k x:Str} {l:List Str}:k ∈ insS x l ↔ k=x\/k ∈ l:=by
 unfold insS
 split
 ·rename_i h
  exact ⟨.inr,fun z=>z.elim (fun e=>e ▸ h) id⟩
 ·exact List.mem_cons
theorem zc4 (x:Str) (l:List Str):(insS x l).length<=l.length+1:=by
 unfold insS
 split
 ·omega
 ·simp
def TxAt (P:Program) (w:World) (h:Heap) (a:Addr) (l:List Str):Prop:=∃ D:SD,h.get? a=some (sObj "set" D)/\TxS P w D l
theorem TxAt.keep {P:Program} {w:World} {h h':Heap} {a:Addr} {l:List Str} (S:TxAt P w h a l) (k:∀ o,h.get? a=some o->h'.get? a=some o):TxAt P w h' a l:=by
 obtain ⟨D,e,F⟩:=S
 exact ⟨D,k _ e,F⟩
section
variable {J:It} {n:Nat} {G:Hp->Prop} {Y:Nat->Hp->V->Hp->Prop} {P:Program} {w':World}
theorem SetSO.noTup {a:Addr} {l:List Str}:(∀ xs,SetSO P w' a l ≠ .tup xs)/\∀ u v,SetSO P w' a l ≠ .frz u v:=⟨(fun _ z=>nomatch z),(fun _ _ z=>nomatch z)⟩
theorem zi7 (w:Walk J n G Y) {g:TG} {tt:TT} {te:TE} {vs:List Nat} {σ:L2.St} {H:Hp} {D:Addr} {Qd:Hp->Prop} (hD:H D=none) (hn:n+1 < scanBound) (R:Nat->List Str->Hp->Prop) (h0:R 0 [] H) (hG:∀ H2,SB [] H H2->G H2)
  (st:∀ i us H2 H3,SB [D] H2 H3->R i us H2->R i us H3)
  (turn:∀ (Pv:Hp->Prop) i x H2 H' us,i < n->SB [] H H2->Y i H2 x H'->R i us H2->us.length<=i->(∀ z H5,SB [] H2 H5->R (i+1) (insS z us) H5->∃ (z':Str) (l:List Str),V.str z=.str z'/\H5 D=some (SetSO P w' D l)/\l.length+1 < scanBound/\Pv (upd H5 D (SetSO P w' D (insS z' l)))) ->
   (∀ H4,SB [] H2 H4->R (i+1) us H4->Pv H4)->g x (wipe σ vs) H' fun σ2 H3=>wipe σ2 vs=wipe σ vs/\tt σ2 H3 fun b H4 =>
    if b=true then te σ2 H4 fun y H5=>∃ (z:Str) (l:List Str),y=.str z/\H5 D=some (SetSO P w' D l)/\l.length+1 < scanBound/\Pv (upd H5 D (SetSO P w' D (insS z l))) else Pv H4)
  (done:∀ us H2,SB [] H H2->H2 D=some (SetSO P w' D us)->R n us H2->us.length<=n->Qd H2) :
  ∃ W:Nat->Nat->Hp->Prop,(∃ m,W 0 m (upd H D (SetSO P w' D [])))/\∀ i m Hi,W i m Hi ->
   (J.stop i Hi/\Qd Hi)\/(J.go i Hi/\∃ Nx:Hp->Prop,(∀ H',Nx H'->∃ m',m' < m/\W (i+1) m' H')/\∀ x H',J.yld i Hi x H'->g x (wipe σ vs) H' fun σ2 H2=>wipe σ2 vs=wipe σ vs/\tt σ2 H2 fun b H3 =>
    if b=true then te σ2 H3 fun y H4=>∃ (z:Str) (l:List Str),y=.str z/\H4 D=some (SetSO P w' D l)/\l.length+1 < scanBound/\Nx (upd H4 D (SetSO P w' D (insS z l))) else Nx H3):=by
 refine lcG (body:=fun Nx x H'=>g x (wipe σ vs) H' fun σ2 H2=>wipe σ2 vs=wipe σ vs/\tt σ2 H2 fun b H3 =>
    if b=true then te σ2 H3 fun y H4=>∃ (z:Str) (l:List Str),y=.str z/\H4 D=some (SetSO P w' D l)/\l.length+1 < scanBound/\Nx (upd H4 D (SetSO P w' D (insS z l))) else Nx H3) w (fun i H2=>SB [D] H H2/\∃ us,H2 D=some (SetSO P w' D us)/\R i us H2/\us.length<=i) ⟨SB.new hD _,[],upd_same,st _ _ _ _ (SB.new hD _) h0,Nat.le_refl _⟩ (fun i H2 _ h=>hG H2 (h.1.drop hD)) (fun i x H2 H' hi h y=>?_) (fun H2 h=>?_)
 ·obtain ⟨s2,us,hD2,hR,hl⟩:=h
  refine turn _ i x H2 H' us hi (s2.drop hD) y hR hl (fun z H5 s5 r5=>?_) (fun H4 s4 r4=>⟨s2.trans s4.nil,us,s4.keep _ _ hD2 nmn,r4,by omega⟩)
  have hD5:=s5.keep _ _ hD2 nmn
  have t6:SB [D] H5 (upd H5 D (SetSO P w' D (insS z us))):=SB.setG hD5 (by simp) SetSO.noTup.1 SetSO.noTup.2 _
  refine ⟨z,us,rfl,hD5,by omega,(s2.trans s5.nil).trans t6,_,upd_same,st _ _ _ _ t6 r5,?_⟩
  have:=zc4 z us
  omega
 ·obtain ⟨s2,us,hD2,hR,hl⟩:=h
  exact done us H2 (s2.drop hD) hD2 hR hl
end
def z42 (K:PySem.W.Frag) (C N:Addr):Sp:=fun vs H Q E=>∃ (v:V) (b:Bk) (n:Str),vs=[v,.str n]/\BkA K C H v b/\b.length<=1000/\(∀ k ∈ b,k.rs.length<=1000) /\
 z6t N b n H E fun k=>∀ (l:Addr) (us:List V) (H':Hp),SB [] H H'->H l=none->H' l=some (.lst us)->Bears K H' Ru.enc us ((.nil,.nil)::k.rs)->Q (.ref l) H'
/-- a place and the number of a rule -/
def chE (c:Pl × Nat):PyData:=.tuple [z0u c.1,.int (c.2:Int)]
theorem z14 (c:Pl × Nat):z03 (chE c)=true:=by simp [chE,z03,z05,z0c]
/-- the bare places of a grove,each with the kind there -/
def Gr.bk:Gr->Nat->List (Pl × Str)
 | .nil,_=>[]
 | .cons k g _ r,i=>(if g=.nil then [([i],k)] else (g.bk 0).map fun x=>(i::x.1,x.2))++r.bk (i+1)
def Bk.cnt (b:Bk) (n:Str):Nat:=match b.get n with
 | some k=>1+k.rs.length
 | none=>0
def chs (b:Bk) (x:Pl × Str):List (Pl × Nat):=(List.range (b.cnt x.2)).map fun r=>(x.1,r)
namespace Gr
def ak:Gr->Nat->List (Pl × Str)
 | .nil,_=>[]
 | .cons k g _ r,i=>(([i],k)::(g.ak 0).map fun x=>(i::x.1,x.2))++r.ak (i+1)
theorem ak_kinds:∀ (g:Gr) (i:Nat),(g.ak i).map (·.2)=g.within.map (·.1.1)
 | .nil,_=>rfl
 | .cons k g m r,i=>by
  have h1:=ak_kinds g 0
  have h2:=ak_kinds r (i+1)
  show ((([i],k)::(g.ak 0).map fun x=>(i::x.1,x.2))++r.ak (i+1)).map (·.2)=(((k,g),m)::(g.within++r.within)).map (·.1.1)
  rw [List.map_append,List.map_cons,List.map_map,h2,List.map_cons,List.map_append,<- h1]
  rfl
theorem lk_root {a b:Str} {g:Gr} {os:List (Option Int)} (h:os ≠ []):lk (a,g) os=lk (b,g) os:=by
 cases os with
 | nil=>exact absurd rfl h
 | cons o r=>rfl
theorem ak_at {G:Gr}:∀ (g:Gr) (i:Nat),G.ps.drop i=g.ps->∀ x ∈ g.ak i,plO x.1 ≠ []/\∃ t:Tr,lk ("",G) (plO x.1)=some t/\t.1=x.2
 | .nil,_,_,x,h=>by cases h
 | .cons k g m r,i,hd,x,h=>by
  have hd':G.ps.drop i=((k,g),m)::r.ps:=hd
  have hi:G.ps[i]?=some ((k,g),m):=by
   have:=congrArg (·[0]?) hd'
   simpa using this
  have hs:stp G (some ((i:Nat):Int))=some (k,g):=by
   show (if (0:Int)<=((i:Nat):Int) then (G.ps[((i:Nat):Int).toNat]?).map (·.1) else none)=_
   rw [if_pos (by omega),Int.toNat_natCast,hi]; rfl
  rcases List.mem_append.mp h with h | h
  ·rcases List.mem_cons.mp h with h | h
   ·rw [h]
    refine ⟨by simp [plO],(k,g),?_,rfl⟩
    show (stp G (some ((i:Nat):Int))).bind _=_
    rw [hs]; rfl
   ·obtain ⟨q,hq,rfl⟩:=List.mem_map.mp h
    obtain ⟨n1,t,e1,e2⟩:=ak_at (G:=g) g 0 rfl q hq
    refine ⟨by simp [plO],t,?_,e2⟩
    show (stp G (some ((i:Nat):Int))).bind (fun u=>lk u (plO q.1))=_
    rw [hs]
    show lk (k,g) (plO q.1)=some t
    rw [lk_root (b:="") n1,e1]
  ·refine ak_at r (i+1) ?_ x h
   rw [<- List.drop_drop,hd']; rfl
theorem ak_place (g:Gr):∀ x ∈ g.ak 0,plO x.1 ≠ []/\∃ t:Tr,lk ("",g) (plO x.1)=some t/\t.1=x.2:=ak_at g 0 rfl
theorem deep_parts:∀ g:Gr,g.deep<=g.parts
 | .nil=>Nat.le_refl _
 | .cons k g m r=>by
  have h1:=deep_parts g
  have h2:=deep_parts r
  show max (1+g.deep) r.deep<=1+g.parts+r.parts
  omega
theorem bk_ak:∀ (g:Gr) (i:Nat),∀ x ∈ g.bk i,x ∈ g.ak i
 | .nil,_,x,h=>by cases h
 | .cons k g m r,i,x,h=>by
  have h1:=bk_ak g 0
  have h2:=bk_ak r (i+1)
  rcases List.mem_append.mp h with h | h
  ·refine mal _ ?_
   by_cases hg:g=.nil
   ·rw [if_pos hg] at h
    rw [show x=([i],k) by simpa using h]; exact mcs
   ·rw [if_neg hg] at h
    obtain ⟨q,hq,rfl⟩:=List.mem_map.mp h
    exact mcm _ (List.mem_map.mpr ⟨q,h1 q hq,rfl⟩)
  ·exact mar _ (h2 x h)
theorem bk_bp:∀ (g:Gr) (i:Nat),(g.bk i).map (·.1)=g.bp i
 | .nil,_=>rfl
 | .cons k g m r,i=>by
  have h1:=bk_bp g 0
  have h2:=bk_bp r (i+1)
  show ((if g=.nil then [([i],k)] else (g.bk 0).map fun x=>(i::x.1,x.2))++r.bk (i+1)).map (·.1)=(if g=.nil then [[i]] else (g.bp 0).map (i::·))++r.bp (i+1)
  rw [List.map_append,h2]
  by_cases hg:g=.nil
  ·rw [if_pos hg,if_pos hg]; rfl
  ·rw [if_neg hg,if_neg hg,List.map_map,<- h1,List.map_map]; rfl
end Gr
structure Sx where
 n:Str
 i:Nat
 wd:Str
 p:Pl
 k:Str
def Sx.st (s:Sx):PyData:=.tuple [.str s.n,.int (s.i:Int),.str s.wd,z0u s.p]
def Sx.enc (s:Sx):PyData:=.tuple [s.st,.str s.k]
theorem Sx.noList_st (s:Sx):z03 s.st=true:=by simp [Sx.st,z03,z05,z0c]
theorem Sx.noList_enc (s:Sx):z03 s.enc=true:=by simp [Sx.enc,z03,z05,Sx.noList_st]
def stG (n:Str) (i:Nat) (wd:Str) (g:Gr):List Sx:=(g.ak 0).map fun x=>⟨n,i,wd,x.1,x.2⟩
def stR (n:Str) (x:Ru × Nat):List Sx:=stG n x.2 "once" x.1.1++stG n x.2 "each" x.1.2
def Kd.steps (k:Kd):List Sx:=(k.rs.zipIdx 1).flatMap (stR k.n)
/-- the kinds that stand in the rules -/
def ledR (rs:List Ru):List Str:=rs.flatMap fun r=>r.within.map (·.1.1)
theorem z7p (n:Str) (i:Nat) (wd:Str) (g:Gr):(stG n i wd g).map (·.k)=g.within.map (·.1.1):=by
 unfold stG
 rw [List.map_map,<- Gr.ak_kinds g 0]; rfl
theorem zb0 (n:Str) (x:Ru × Nat):(stR n x).map (·.k)=x.1.within.map (·.1.1):=by
 unfold stR Ru.within
 rw [List.map_append,List.map_append,z7p,z7p]
theorem z6u (n:Str):∀ (rs:List Ru) (i:Nat),((rs.zipIdx i).flatMap (stR n)).map (·.k)=ledR rs
 | [],_=>rfl
 | r::rs,i=>by
  rw [List.zipIdx_cons,List.flatMap_cons,List.map_append,z6u n rs (i+1),zb0]
  rfl
theorem Kd.steps_kinds (k:Kd):k.steps.map (·.k)=ledR k.rs:=z6u _ _ _
/-- the texts of ks,each once,sorted -/
structure SrtOf (ss ks:List Str):Prop where
 srt:sortedS ss=true
 nd:ss.Nodup
 mem:∀ x,x ∈ ss ↔ x ∈ ks
theorem zae {x:Str} {l:List Str} (h:l.Nodup):(insS x l).Nodup:=by
 unfold insS
 split
 ·exact h
 ·rename_i hx
  exact List.nodup_cons.mpr ⟨hx,h⟩
theorem SrtOf.perm {ss l ks:List Str} (pm:ss.Perm l) (s:sortedS ss=true) (nd:l.Nodup) (h:∀ x,x ∈ l ↔ x ∈ ks):SrtOf ss ks :=
 ⟨s,pm.nodup_iff.mpr nd,fun x=>pm.mem_iff.trans (h x)⟩
theorem z8n {ds:List PyData} (h:plSs ds=true) (hd:PyData.depthAll ds<=60):SeqAt.shaped (.list ds)=true:=by
 unfold SeqAt.shaped
 rw [PyData.canLay0,z67 _ h,Bool.true_and]
 have:(PyData.list ds).depth=PyData.depthAll ds+1:=by simp [PyData.depth]
 exact decide_eq_true (by omega)
theorem Bk.Ok.led {b:Bk} (ok:b.Ok) {k:Kd} (hk:k ∈ b):∀ x ∈ ledR k.rs,x ∈ b.names:=fun x hx=>by
 obtain ⟨r,hr,hx⟩:=List.mem_flatMap.mp hx
 obtain ⟨p,hp,rfl⟩:=List.mem_map.mp hx
 exact ((ok.kd k hk).2.2 r hr).2 p hp
theorem Bk.Ok.names {b:Bk} (ok:b.Ok):∀ x ∈ b.names,z01 x:=fun x hx=>by
 obtain ⟨k,hk,rfl⟩:=List.mem_map.mp hx
 exact (ok.kd k hk).1
def z6o (K:PySem.W.Frag) (x:Addr):Bool:=match K.lookup x with
 | some o=>(match o.cls,o.data with
  | .type t,.seq its _=>decide (t="tuple")&&decide (its.toList.length=0)
  | _,_=>false)
 | none=>false
def no2B (K:PySem.W.Frag) (a:Addr):Bool:=match K.lookup a with
 | some o=>(match o.cls,o.data with
  | .type t,.seq its _=>decide (t="tuple")&&(match its.toList with
   | [.ref x,.ref y]=>z6o K x&&z6o K y
   | _=>false)
  | _,_=>false)
 | none=>false
theorem z7w {K:PySem.W.Frag} {x:Addr} (h:z6o K x=true) (H:Hp):SqT K H x []:=by
 unfold z6o at h
 split at h
 ·rename_i o ho
  split at h
  ·rename_i t its n hc hd
   rw [Bool.and_eq_true,decide_eq_true_eq,decide_eq_true_eq] at h
   have hz:its.size=0:=by simpa using h.2
   have he:its.toList=[]:=List.length_eq_zero_iff.mp h.2
   refine .inr ⟨o,its,n,ho,by rw [hc,h.1],hd,by rw [hz]; exact Nat.zero_le _,by rw [he]; exact .nil⟩
  ·cases h
 ·cases h
theorem zfg {K:PySem.W.Frag} {a:Addr} (h:no2B K a=true) (H:Hp):Dp K H (.ref a) (Ru.enc (.nil,.nil)):=by
 unfold no2B at h
 split at h
 ·rename_i o ho
  split at h
  ·rename_i t its n hc hd
   rw [Bool.and_eq_true,decide_eq_true_eq] at h
   obtain ⟨h1,h2⟩:=h
   split at h2
   ·rename_i x y he
    rw [Bool.and_eq_true] at h2
    have hz:its.size=2:=by have:=congrArg List.length he; simpa using this
    have hs:SqT K H a [.ref x,.ref y]:=.inr ⟨o,its,n,ho,by rw [hc,h1],hd,by rw [hz]; decide,by rw [he]; exact .cons rfl (.cons rfl .nil)⟩
    exact .tup hs (.cons (.tup (z7w h2.1 H) .nil) (.cons (.tup (z7w h2.2 H) .nil) .nil))
   ·cases h2
  ·cases h
 ·cases h
namespace Gr
def bkP (p:Tr × Int) (i:Nat):List (Pl × Str):=if p.1.2=.nil then [([i],p.1.1)] else (p.1.2.bk 0).map fun x=>(i::x.1,x.2)
def bks:List (Tr × Int)->Nat->List (Pl × Str)
 | [],_=>[]
 | p::r,i=>bkP p i++bks r (i+1)
theorem bk_ps:∀ (g:Gr) (i:Nat),g.bk i=bks g.ps i
 | .nil,_=>rfl
 | .cons k g m r,i=>by show _++r.bk (i+1)=_++bks r.ps (i+1); rw [bk_ps r]; rfl
theorem bk_len (g:Gr) (i:Nat):(g.bk i).length<=g.parts:=by
 have h:=congrArg List.length (bk_bp g i)
 rw [List.length_map] at h
 rw [h]; exact bp_len g i
theorem enc_eq_nil (g:Gr):PyData.eqv g.enc (.tuple [])=decide (g=.nil):=by
 cases g with
 | nil=>simp [enc,encs,PyData.eqv,PyData.eqvAll]
 | cons k g m r=>simp [enc,encs,PyData.eqv,PyData.eqvAll]
end Gr
theorem z90 (c:Pl × Nat):plS (chE c)=true:=by
 show plS (.tuple [.tuple (z0a c.1),.int (c.2:Int)])=true
 simp [plS,plSs,zct]
theorem zbx:∀ cs:List (Pl × Nat),plSs (cs.map chE)=true
 | []=>by simp [plSs]
 | c::cs=>by rw [List.map_cons,plSs,z90,zbx cs]; rfl
theorem z7y (c:Pl × Nat):(chE c).depth=2:=by
 show PyData.depth (.tuple [z0u c.1,.int (c.2:Int)])=2
 simp [PyData.depth,PyData.depthAll,zck]
theorem zak (cs:List (Pl × Nat)):SeqAt.shaped (.list (cs.map chE))=true:=z8n (zbx cs) (Nat.le_trans (z7x (n:=2) fun d hd=>by
 obtain ⟨c,_,rfl⟩:=List.mem_map.mp hd
 rw [z7y]; omega) (by omega))
def adj (b:Bk) (n:Str):List Str:=match b.get n with
 | some k=>ledR k.rs
 | none=>[]
inductive EndK (b:Bk):Str->Prop
 | mk {n:Str}:(∀ k,k ∈ adj b n->EndK b k)->EndK b n
inductive Rch (b:Bk):Str->Str->Prop
 | one {n k:Str}:k ∈ adj b n->Rch b n k
 | step {n m k:Str}:Rch b n m->k ∈ adj b m->Rch b n k
section
variable {b:Bk}
theorem z5h {n:Str} {k:Kd} (h:b.get n=some k):adj b n=ledR k.rs:=by unfold adj; rw [h]
theorem z1b (ok:b.Ok) {n k:Str} (h:k ∈ adj b n):k ∈ b.names:=by
 unfold adj at h
 split at h
 ·rename_i kd e
  exact ok.led (Bk.get_some e).1 k h
 ·cases h
theorem z10 {k:Kd} (ok:b.Ok) (hk:k ∈ b):adj b k.n=ledR k.rs:=z5h (Bk.get_self ok.nd hk)
theorem Rch.trans {n m k:Str} (h:Rch b n m) (g:Rch b m k):Rch b n k:=by
 induction g with
 | one e=>exact .step h e
 | step _ e ih=>exact .step ih e
theorem Rch.cons {n m k:Str} (h:m ∈ adj b n) (g:Rch b m k):Rch b n k:=(Rch.one h).trans g
theorem Rch.split {n k:Str} (h:Rch b n k):∃ m,m ∈ adj b n/\(m=k\/Rch b m k):=by
 induction h with
 | one e=>exact ⟨_,e,.inl rfl⟩
 | step _ e ih =>
  obtain ⟨m,hm,h⟩:=ih
  refine ⟨m,hm,.inr ?_⟩
  rcases h with h | h
  ·rw [h]; exact .one e
  ·exact .step h e
theorem Rch.mem (ok:b.Ok) {n k:Str} (h:Rch b n k):k ∈ b.names:=by
 cases h with
 | one e=>exact z1b ok e
 | step _ e=>exact z1b ok e
theorem EndK.next {n k:Str} (h:EndK b n) (e:k ∈ adj b n):EndK b k:=by
 cases h with
 | mk h=>exact h k e
theorem EndK.rch {n k:Str} (h:EndK b n) (g:Rch b n k):EndK b k:=by
 induction g with
 | one e=>exact h.next e
 | step _ e ih=>exact ih.next e
theorem EndK.noring {n:Str} (h:EndK b n):¬ Rch b n n:=by
 induction h with
 | mk h ih =>
  intro g
  obtain ⟨m,hm,e⟩:=g.split
  refine ih m hm ?_
  rcases e with e | e
  ·rw [e]; exact g
  ·exact .step e hm
/-- the walk that never ends -/
theorem zcs {n:Str} (h:¬ EndK b n):∃ k,k ∈ adj b n/\¬ EndK b k:=Classical.byContradiction fun g=>h (.mk fun k hk=>Classical.byContradiction fun z=>g ⟨k,hk,z⟩)
theorem zfm (ok:b.Ok) {n:Str} (hn:n ∈ b.names) (h:¬ EndK b n):∃ r,Rch b r r/\(r=n\/Rch b n r):=by
 have ch:∀ x:{ x:Str // ¬ EndK b x },∃ y:{ y:Str // ¬ EndK b y },y.1 ∈ adj b x.1:=fun x=>by
  obtain ⟨k,h1,h2⟩:=zcs x.2
  exact ⟨⟨k,h2⟩,h1⟩
 let nx:{ x:Str // ¬ EndK b x }->{ x:Str // ¬ EndK b x }:=fun x=>(ch x).choose
 have hnx:∀ x,(nx x).1 ∈ adj b x.1:=fun x=>(ch x).choose_spec
 let w:Nat->{ x:Str // ¬ EndK b x }:=fun i=>Nat.rec ⟨n,h⟩ (fun _ x=>nx x) i
 have ws:∀ i,(w (i+1)).1 ∈ adj b (w i).1:=fun i=>hnx (w i)
 have wm:∀ i,(w i).1 ∈ b.names:=fun i=>by
  cases i with
  | zero=>exact hn
  | succ i=>exact z1b ok (ws i)
 have wr:∀ i d,Rch b (w i).1 (w (i+d+1)).1:=by
  intro i d
  induction d with
  | zero=>exact .one (ws i)
  | succ d ih=>exact .step ih (ws (i+d+1))
 have rep:∃ i j,i < j/\(w i).1=(w j).1:=by
  refine Classical.byContradiction fun z=>?_
  have nd:((List.range (b.names.length+1)).map fun i=>(w i).1).Nodup:=by
   refine List.pairwise_map.mpr (List.Pairwise.imp ?_ List.pairwise_lt_range)
   intro i j hij e
   exact z ⟨i,j,hij,e⟩
  have:=nd.length_le_of_subset (l₂:=b.names) fun x hx=>by
   obtain ⟨i,_,rfl⟩:=List.mem_map.mp hx
   exact wm i
  rw [List.length_map,List.length_range] at this
  omega
 obtain ⟨i,j,hij,e⟩:=rep
 refine ⟨(w i).1,?_,?_⟩
 ·have:=wr i (j-i-1)
  rw [show i+(j-i-1)+1=j by omega,<- e] at this
  exact this
 ·cases i with
  | zero=>exact .inl rfl
  | succ i =>
   have:=wr 0 i
   rw [show 0+i+1=i+1 by omega] at this
   exact .inr this
end
inductive LedAll (K:PySem.W.Frag) (H:Hp):List (Key × V)->Bk->Prop
 | nil:LedAll K H [] []
 | cons {l:Addr} {ss:List Str} {k:Kd} {kvs:List (Key × V)} {b:Bk}:H l=some (.lst (ss.map V.str))->SrtOf ss (ledR k.rs)->LedAll K H kvs b->LedAll K H ((Sum.inr k.n,.ref l)::kvs) (k::b)
section
variable {K:PySem.W.Frag} {H H':Hp}
theorem LedAll.length:∀ {kvs:List (Key × V)} {b:Bk},LedAll K H kvs b->kvs.length=b.length
 | _,_,.nil=>rfl
 | _,_,.cons _ _ t=>congrArg (·+1) t.length
theorem LedAll.keep (h:∀ l xs,H l=some (.lst xs)->H' l=some (.lst xs)):∀ {kvs:List (Key × V)} {b:Bk},LedAll K H kvs b->LedAll K H' kvs b
 | _,_,.nil=>.nil
 | _,_,.cons a s t=>.cons (h _ _ a) s (LedAll.keep h t)
theorem LedAll.append:∀ {kvs kws:List (Key × V)} {b c:Bk},LedAll K H kvs b->LedAll K H kws c->LedAll K H (kvs++kws) (b++c)
 | _,_,_,_,.nil,h=>h
 | _,_,_,_,.cons a s t,h=>.cons a s (t.append h)
theorem LedAll.val {n:Str} {k:Kd}:∀ {kvs:List (Key × V)} {b:Bk},LedAll K H kvs b->b.get n=some k->∃ l ss,valV kvs (Sum.inr n)=some (.ref l)/\H l=some (.lst (ss.map V.str))/\SrtOf ss (ledR k.rs)
 | _,_,.nil,e=>by simp [Bk.get] at e
 | _,_,.cons (l:=l) (ss:=ss) (k:=kk) (b:=bb) a s t,e=>by
  by_cases h:kk.n=n
  ·have e':kk=k:=by
    have:Bk.get (kk::bb) n=some kk:=by simp [Bk.get,h]
    rw [this] at e; exact Option.some.inj e
   subst e'
   exact ⟨l,ss,valV_pos (by rw [h]),a,s⟩
  ·have e':Bk.get bb n=some k:=by
    unfold Bk.get at e
    rw [List.find?_cons_of_neg (by simpa using h)] at e
    exact e
   obtain ⟨l',ss',h1,h2,h3⟩:=t.val e'
   exact ⟨l',ss',by rw [valV_neg (fun z=>h (Sum.inr.inj z))]; exact h1,h2,h3⟩
theorem LedAll.get:∀ {kvs:List (Key × V)} {b:Bk} {i:Nat} {p:Key × V},LedAll K H kvs b->kvs[i]?=some p->∃ k,b[i]?=some k/\p.1=Sum.inr k.n
 | _,_,_,_,.nil,e=>by simp at e
 | _,_,0,_,.cons a s t,e=>by
  obtain rfl:=Option.some.inj e
  exact ⟨_,rfl,rfl⟩
 | _,_,i+1,_,.cons a s t,e=>t.get (i:=i) e
end
theorem LedAll.sb {K:PySem.W.Frag} {H H':Hp} {ps:List Addr} (e:SB ps H H'):∀ {kvs:List (Key × V)} {b:Bk},LedAll K H kvs b->(∀ p ∈ kvs,∀ q ∈ ps,p.2 ≠ .ref q)->LedAll K H' kvs b
 | _,_,.nil,_=>.nil
 | _,_,.cons a s t,h=>.cons (e.keep _ _ a fun z=>h _ mcs _ z rfl) s (LedAll.sb e t fun p hp=>h p (mcm _ hp))
theorem LedAll.ne {K:PySem.W.Frag} {H:Hp} {q:Addr} (hq:H q=none):∀ {kvs:List (Key × V)} {b:Bk},LedAll K H kvs b->∀ p ∈ kvs,p.2 ≠ .ref q
 | _,_,.nil,p,hp=>by cases hp
 | _,_,.cons a s t,p,hp=>by
  rcases List.mem_cons.mp hp with e | e
  ·rw [e]
   intro z
   rw [V.ref.inj z] at a
   rw [a] at hq; cases hq
  ·exact LedAll.ne hq t p e
theorem LedAll.keys {K:PySem.W.Frag} {H:Hp}:∀ {kvs:List (Key × V)} {b:Bk},LedAll K H kvs b->kvs.map (·.1)=b.names.map Sum.inr
 | _,_,.nil=>rfl
 | _,_,.cons a s t=>by rw [List.map_cons,LedAll.keys t]; rfl
inductive Wlk (b:Bk) (n:Str):List Sx->Str->Prop
 | nil:Wlk b n [] n
 | step {p:List Sx} {m:Str} {kd:Kd} {s:Sx}:Wlk b n p m->b.get m=some kd->s ∈ kd.steps->Wlk b n (p++[s]) s.k
section
variable {b:Bk} {K:PySem.W.Frag} {H H':Hp} {F F':Addr->Prop} {n k h:Str} {l:Addr} {A B A' B':Nat} {ps:List Addr}
theorem z8h {m:Str} {kd:Kd} {s:Sx} (e:b.get m=some kd) (hs:s ∈ kd.steps):s.k ∈ adj b m:=by
 rw [z5h e,<- Kd.steps_kinds]
 exact List.mem_map.mpr ⟨s,hs,rfl⟩
theorem Wlk.rch {p:List Sx} (w:Wlk b n p k):p ≠ []->Rch b n k:=by
 induction w with
 | nil=>exact fun h=>absurd rfl h
 | @step p m kd s w e hs ih =>
  intro _
  by_cases hp:p=[]
  ·have hm:m=n:=by
    have:∀ (q:List Sx) (k:Str),Wlk b n q k->q=[]->k=n:=fun q k w z=>by
     induction w with
     | nil=>rfl
     | step _ _ _ _=>simp at z
    exact this _ _ w hp
   subst hm
   exact .one (z8h e hs)
  ·exact .step (ih hp) (z8h e hs)
/-- l holds a walk from n to k,of at least A and at most B steps -/
def Wy (K:PySem.W.Frag) (H:Hp) (F:Addr->Prop) (b:Bk) (n:Str) (A B:Nat) (k:Str) (l:Addr):Prop:=∃ us q,H l=some (.lst us)/\Bears K H Sx.st us q/\Wlk b n q k/\A<=q.length/\q.length<=B/\F l
theorem Wy.sb (e:SB ps H H') (hn:∀ p ∈ ps,¬ F p\/∀ us,H p ≠ some (.lst us)):Wy K H F b n A B k l->Wy K H' F b n A B k l:=by
 rintro ⟨us,q,h1,h2,h3,h4,h5,h6⟩
 exact ⟨us,q,e.keep _ _ h1 (fun z=>(hn _ z).elim (fun y=>y h6) fun y=>y _ h1),h2.sb e Sx.noList_st,h3,h4,h5,h6⟩
theorem Wy.imp (hA:A'<=A) (hB:B<=B') (hF:∀ l us,H l=some (.lst us)->F l->F' l):Wy K H F b n A B k l->Wy K H F' b n A' B' k l:=by
 rintro ⟨us,q,h1,h2,h3,h4,h5,h6⟩
 exact ⟨us,q,h1,h2,h3,by omega,by omega,hF _ _ h1 h6⟩
inductive WyD (K:PySem.W.Frag) (H:Hp) (F:Addr->Prop) (b:Bk) (n:Str) (A B:Nat):List (Key × V)->List Str->Prop
 | nil:WyD K H F b n A B [] []
 | cons {k:Str} {l:Addr} {kvs:List (Key × V)} {ks:List Str}:Wy K H F b n A B k l->WyD K H F b n A B kvs ks->WyD K H F b n A B ((Sum.inr k,.ref l)::kvs) (k::ks)
theorem WyD.map (f:∀ k l,Wy K H F b n A B k l->Wy K H' F' b n A' B' k l):∀ {kvs:List (Key × V)} {ks:List Str},WyD K H F b n A B kvs ks->WyD K H' F' b n A' B' kvs ks
 | _,_,.nil=>.nil
 | _,_,.cons h t=>.cons (f _ _ h) (WyD.map f t)
theorem WyD.sb {kvs:List (Key × V)} {ks:List Str} (h:WyD K H F b n A B kvs ks) (e:SB ps H H') (hn:∀ p ∈ ps,¬ F p\/∀ us,H p ≠ some (.lst us)):WyD K H' F b n A B kvs ks:=h.map fun _ _=>Wy.sb e hn
theorem WyD.imp {kvs:List (Key × V)} {ks:List Str} (h:WyD K H F b n A B kvs ks) (hA:A'<=A) (hB:B<=B') (hF:∀ l us,H l=some (.lst us)->F l->F' l):WyD K H F' b n A' B' kvs ks:=h.map fun _ _=>Wy.imp hA hB hF
theorem WyD.append:∀ {kvs kws:List (Key × V)} {ks js:List Str},WyD K H F b n A B kvs ks->WyD K H F b n A B kws js->WyD K H F b n A B (kvs++kws) (ks++js)
 | _,_,_,_,.nil,h=>h
 | _,_,_,_,.cons a t,h=>.cons a (t.append h)
theorem WyD.length:∀ {kvs:List (Key × V)} {ks:List Str},WyD K H F b n A B kvs ks->kvs.length=ks.length
 | _,_,.nil=>rfl
 | _,_,.cons _ t=>congrArg (·+1) t.length
theorem WyD.keys:∀ {kvs:List (Key × V)} {ks:List Str},WyD K H F b n A B kvs ks->kvs.map (·.1)=ks.map Sum.inr
 | _,_,.nil=>rfl
 | _,_,.cons _ t=>by rw [List.map_cons,t.keys]; rfl
theorem WyD.val:∀ {kvs:List (Key × V)} {ks:List Str},WyD K H F b n A B kvs ks->k ∈ ks->∃ l,valV kvs (Sum.inr k)=some (.ref l)/\Wy K H F b n A B k l
 | _,_,.nil,h=>by cases h
 | _,_,.cons (k:=j) (l:=l) a t,h=>by
  by_cases e:j=k
  ·subst e
   exact ⟨l,valV_pos rfl,a⟩
  ·obtain ⟨l',h1,h2⟩:=t.val ((List.mem_cons.mp h).resolve_left fun z=>e z.symm)
   exact ⟨l',by rw [valV_neg (fun z=>e (Sum.inr.inj z))]; exact h1,h2⟩
theorem WyD.none:∀ {kvs:List (Key × V)} {ks:List Str},WyD K H F b n A B kvs ks->k ∉ ks->valV kvs (Sum.inr k)=none
 | _,_,.nil,h=>rfl
 | _,_,.cons (k:=j) a t,h=>by
  rw [valV_neg (fun z=>h (by rw [<- Sum.inr.inj z]; exact mcs))]
  exact t.none fun z=>h (mcm _ z)
theorem WyD.put {kvs:List (Key × V)} {ks:List Str} (h:WyD K H F b n A B kvs ks) (hk:k ∉ ks) (w:Wy K H F b n A B k l):WyD K H F b n A B (putK kvs (Sum.inr k) (.ref l)) (ks++[k]):=by
 rw [z1j fun p hp z=>?_]
 ·exact h.append (.cons w .nil)
 ·have:p.1 ∈ ks.map (Sum.inr (α:=Int)):=by rw [<- h.keys]; exact List.mem_map.mpr ⟨p,hp,rfl⟩
  rw [z] at this
  obtain ⟨m,hm,e⟩:=List.mem_map.mp this
  exact hk (by rw [<- Sum.inr.inj e]; exact hm)
/-- heads with their walks -/
inductive HdAll (K:PySem.W.Frag) (H:Hp) (F:Addr->Prop) (b:Bk) (n:Str) (A B:Nat):List V->List Str->Prop
 | nil:HdAll K H F b n A B [] []
 | cons {k:Str} {t l:Addr} {vs:List V} {ks:List Str}:SqT K H t [.str k,.ref l]->Wy K H F b n A B k l->HdAll K H F b n A B vs ks->HdAll K H F b n A B (.ref t::vs) (k::ks)
theorem HdAll.sb (e:SB ps H H') (hn:∀ p ∈ ps,¬ F p\/∀ us,H p ≠ some (.lst us)):∀ {vs:List V} {ks:List Str},HdAll K H F b n A B vs ks->HdAll K H' F b n A B vs ks
 | _,_,.nil=>.nil
 | _,_,.cons a w t=>.cons (e.sqT a) (w.sb e hn) (HdAll.sb e hn t)
theorem HdAll.imp (hA:A'<=A) (hB:B<=B') (hF:∀ l us,H l=some (.lst us)->F l->F' l):∀ {vs:List V} {ks:List Str},HdAll K H F b n A B vs ks->HdAll K H F' b n A' B' vs ks
 | _,_,.nil=>.nil
 | _,_,.cons a w t=>.cons a (w.imp hA hB hF) (HdAll.imp hA hB hF t)
theorem HdAll.append:∀ {vs ws:List V} {ks js:List Str},HdAll K H F b n A B vs ks->HdAll K H F b n A B ws js->HdAll K H F b n A B (vs++ws) (ks++js)
 | _,_,_,_,.nil,h=>h
 | _,_,_,_,.cons a w t,h=>.cons a w (t.append h)
theorem HdAll.length:∀ {vs:List V} {ks:List Str},HdAll K H F b n A B vs ks->vs.length=ks.length
 | _,_,.nil=>rfl
 | _,_,.cons _ _ t=>congrArg (·+1) t.length
theorem HdAll.get:∀ {vs:List V} {ks:List Str} {i:Nat} {v:V},HdAll K H F b n A B vs ks->vs[i]?=some v->∃ k t l,ks[i]?=some k/\v=.ref t/\SqT K H t [.str k,.ref l]/\Wy K H F b n A B k l
 | _,_,_,_,.nil,e=>by simp at e
 | _,_,0,_,.cons a w t,e=>by
  obtain rfl:=Option.some.inj e
  exact ⟨_,_,_,rfl,rfl,a,w⟩
 | _,_,i+1,_,.cons a w t,e=>t.get (i:=i) e
/-- within a round of ways_from: gs are the kinds newly found,with their heads in G -/
structure WSt (K:PySem.W.Frag) (H H2:Hp) (b:Bk) (n:Str) (Wd Fa G:Addr) (vs:List V) (hs ks gs:List Str):Prop where
 sb:SB [] H H2
 wd:∃ kvs,H2 Wd=some (.dK kvs)/\WyD K H2 (fun l=>H l=none/\l ≠ G) b n 1 (ks.length+1) kvs (ks++gs)
 g:∃ ws,H2 G=some (.lst ws)/\HdAll K H2 (fun l=>H l=none/\l ≠ G) b n 1 (ks.length+1) ws gs
 fa:H2 Fa=some (.lst vs)
 hd:HdAll K H2 (fun l=>H l=none/\l ≠ G) b n 0 ks.length vs hs
 nd:(ks++gs).Nodup
 rc:∀ x ∈ ks++gs,Rch b n x
theorem WSt.keep {H2 H3:Hp} {Wd Fa G:Addr} {vs:List V} {hs ks gs:List Str} (h:WSt K H H2 b n Wd Fa G vs hs ks gs) (s:SB [] H2 H3):WSt K H H3 b n Wd Fa G vs hs ks gs:=by
 obtain ⟨h1,⟨kvs,h2,h3⟩,⟨ws,h4,h5⟩,h6,h7,h8,h9⟩:=h
 have z:∀ p ∈ ([]:List Addr),¬ (fun l=>H l=none/\l ≠ G) p\/∀ us,H2 p ≠ some (.lst us):=fun _ y=>nomatch y
 exact ⟨h1.trans s,⟨kvs,s.keep _ _ h2 nmn,h3.sb s z⟩,⟨ws,s.keep _ _ h4 nmn,h5.sb s z⟩,s.keep _ _ h6 nmn,h7.sb s z,h8,h9⟩
/-- a kind more -/
theorem WSt.add {H2:Hp} {Wd Fa G a T:Addr} {vs ws:List V} {hs ks gs:List Str} {kvs:List (Key × V)} {k:Str} (h:WSt K H H2 b n Wd Fa G vs hs ks gs) (nW:H Wd=none) (nG:H G=none) (FG:Fa ≠ G)
  (hW:H2 Wd=some (.dK kvs)) (hk:k ∉ ks++gs) (r:Rch b n k) (w:Wy K H2 (fun l=>H l=none/\l ≠ G) b n 1 (ks.length+1) k a) (hT:upd H2 Wd (.dK (putK kvs (Sum.inr k) (.ref a))) T=none)
  (hG:upd (upd H2 Wd (.dK (putK kvs (Sum.inr k) (.ref a)))) T (.tup [.str k,.ref a]) G=some (.lst ws)) :
  WSt K H (upd (upd (upd H2 Wd (.dK (putK kvs (Sum.inr k) (.ref a)))) T (.tup [.str k,.ref a])) G (.lst (ws++[.ref T]))) b n Wd Fa G vs hs ks (gs++[k]):=by
 obtain ⟨h1,⟨kvs',h2,h3⟩,⟨ws',h4,h5⟩,h6,h7,h8,h9⟩:=h
 rw [hW] at h2
 injection h2 with h2
 injection h2 with h2
 subst h2
 have t1:SB [Wd] H2 (upd H2 Wd (.dK (putK kvs (Sum.inr k) (.ref a)))):=SB.setD hW (by simp) _
 have t2:SB [Wd] _ (upd (upd H2 Wd (.dK (putK kvs (Sum.inr k) (.ref a)))) T (.tup [.str k,.ref a])):=SB.new hT _
 have t12:=t1.trans t2
 have WG:Wd ≠ G:=fun z=>by rw [z,h4] at hW; cases hW
 have WF:Wd ≠ Fa:=fun z=>by rw [z,h6] at hW; cases hW
 have zW:∀ p ∈ [Wd],¬ (fun l=>H l=none/\l ≠ G) p\/∀ us,H2 p ≠ some (.lst us):=fun p hp=>.inr fun us=>by rw [List.mem_singleton.mp hp,hW]; exact fun y=>nomatch y
 have eG:=t12.keep _ _ h4 (by simpa using fun z=>WG z.symm)
 rw [hG] at eG
 injection eG with eG
 injection eG with eG
 subst eG
 have hT2:upd (upd H2 Wd (.dK (putK kvs (Sum.inr k) (.ref a)))) T (.tup [.str k,.ref a]) T=some (.tup [.str k,.ref a]):=upd_same
 have hW2:upd (upd H2 Wd (.dK (putK kvs (Sum.inr k) (.ref a)))) T (.tup [.str k,.ref a]) Wd=some (.dK (putK kvs (Sum.inr k) (.ref a))):=by
  rw [upd_ne (fun z=>by rw [<- z,upd_same] at hT; cases hT),upd_same]
 have f6:=t12.keep _ _ h6 (by simpa using fun z=>WF z.symm)
 have g3:=(h3.put hk w).sb t12 zW
 have g5:=h5.sb t12 zW
 have g7:=h7.sb t12 zW
 have gw:=w.sb t12 zW
 have s12:SB [] H (upd (upd H2 Wd (.dK (putK kvs (Sum.inr k) (.ref a)))) T (.tup [.str k,.ref a])):=((h1.nil (ps:=[Wd])).trans t12).drop nW
 generalize upd (upd H2 Wd (.dK (putK kvs (Sum.inr k) (.ref a)))) T (.tup [.str k,.ref a])=H4 at *
 have t3:SB [G] H4 (upd H4 G (.lst (ws++[.ref T]))):=SB.set hG (by simp) _
 have zG:∀ p ∈ [G],¬ (fun l=>H l=none/\l ≠ G) p\/∀ us,H4 p ≠ some (.lst us):=fun p hp=>.inl fun y=>y.2 (List.mem_singleton.mp hp)
 have e0:ks++(gs++[k])=ks++gs++[k]:=by rw [List.append_assoc]
 refine ⟨((s12.nil (ps:=[G])).trans t3).drop nG,⟨_,t3.keep _ _ hW2 (by simpa using WG),by rw [e0]; exact g3.sb t3 zG⟩,⟨_,upd_same,(g5.sb t3 zG).append (.cons (t3.sqT (SqT.of hT2)) (gw.sb t3 zG) .nil)⟩,t3.keep _ _ f6 (by simpa using FG),g7.sb t3 zG,?_,?_⟩
 ·rw [e0]
  exact List.nodup_append.mpr ⟨h8,by simp,fun x hx y hy e=>by rw [List.mem_singleton.mp hy] at e; rw [e] at hx; exact hk hx⟩
 ·rw [e0]
  intro x hx
  rcases List.mem_append.mp hx with hx | hx
  ·exact h9 x hx
  ·rw [List.mem_singleton.mp hx]; exact r
end
theorem Rd.sb {H H':Hp} {d:Addr} {kvs:List (Key × V)} (h:L2.Rd H d (.dK kvs)) (s:SB [] H H'):L2.Rd H' d (.dK kvs):=by
 rcases h with h | ⟨o,h⟩
 ·exact .inl (s.keep _ _ h nmn)
 ·exact .inr ⟨o,s.frzs _ _ _ h⟩
theorem z04 {γ:Type} [DecidableEq γ] (p:γ × Int) (r:List (γ × Int)) (x:γ):sumE (p::r) x=(if p.1=x then p.2 else 0)+sumE r x:=rfl
namespace Gr
def woL (t:Tr) (m:Int):List (Tr × Int)->List (Tr × Int)
 | []=>[]
 | p::r=>if p.1 ≠ t then p::woL t m r else if m < p.2 then (p.1,p.2-m)::woL t m r else woL t m r
theorem woL_append (t:Tr) (m:Int):∀ as bs:List (Tr × Int),woL t m (as++bs)=woL t m as++woL t m bs
 | [],bs=>rfl
 | p::as,bs=>by
  simp only [List.cons_append,woL,woL_append t m as bs]
  split
  ·rfl
  ·split <;> rfl
theorem woL_none {t:Tr} {m:Int}:∀ {bs:List (Tr × Int)},(∀ p ∈ bs,p.1 ≠ t)->woL t m bs=bs
 | [],_=>rfl
 | p::r,h=>by
  rw [woL,if_pos (h p (by simp)),woL_none fun q hq=>h q (by simp [hq])]
theorem woL_mem {t:Tr} {m:Int} (hm:0<=m):∀ {bs:List (Tr × Int)} {p:Tr × Int},p ∈ woL t m bs->∃ q ∈ bs,q.1=p.1/\p.2<=q.2/\(1<=q.2->1<=p.2)
 | [],_,h=>nomatch h
 | q::r,p,h=>by
  rw [woL] at h
  split at h
  ·rcases List.mem_cons.mp h with e | h
   ·exact ⟨q,by simp,by rw [e],by rw [e]; exact Int.le_refl _,by rw [e]; exact id⟩
   ·obtain ⟨q',h1,h2⟩:=woL_mem hm h; exact ⟨q',by simp [h1],h2⟩
  ·split at h
   ·rcases List.mem_cons.mp h with e | h
    ·exact ⟨q,by simp,by rw [e],by rw [e]; show q.2-m<=q.2; omega,by rw [e]; show _->1<=q.2-m; omega⟩
    ·obtain ⟨q',h1,h2⟩:=woL_mem hm h; exact ⟨q',by simp [h1],h2⟩
   ·obtain ⟨q',h1,h2⟩:=woL_mem hm h; exact ⟨q',by simp [h1],h2⟩
theorem woL_key {t:Tr} {m:Int}:∀ {bs:List (Tr × Int)} {p:Tr × Int},p ∈ woL t m bs->∃ q ∈ bs,q.1=p.1
 | [],_,h=>nomatch h
 | q::r,p,h=>by
  rw [woL] at h
  split at h
  ·rcases List.mem_cons.mp h with e | h
   ·exact ⟨q,by simp,by rw [e]⟩
   ·obtain ⟨q',h1,h2⟩:=woL_key h; exact ⟨q',by simp [h1],h2⟩
  ·split at h
   ·rcases List.mem_cons.mp h with e | h
    ·exact ⟨q,by simp,by rw [e]⟩
    ·obtain ⟨q',h1,h2⟩:=woL_key h; exact ⟨q',by simp [h1],h2⟩
   ·obtain ⟨q',h1,h2⟩:=woL_key h; exact ⟨q',by simp [h1],h2⟩
theorem woL_pair {R:Tr->Tr->Prop} {t:Tr} {m:Int}:∀ {bs:List (Tr × Int)},bs.Pairwise (fun p q=>R p.1 q.1)->(woL t m bs).Pairwise (fun p q=>R p.1 q.1)
 | [],_=>.nil
 | p::r,h=>by
  obtain ⟨h1,h2⟩:=List.pairwise_cons.mp h
  have ih:=woL_pair (t:=t) (m:=m) h2
  have hk:∀ q ∈ woL t m r,R p.1 q.1:=fun q hq=>by
   obtain ⟨q',hq',e⟩:=woL_key hq
   rw [<- e]; exact h1 q' hq'
  rw [woL]
  split
  ·exact List.pairwise_cons.mpr ⟨hk,ih⟩
  ·split
   ·exact List.pairwise_cons.mpr ⟨hk,ih⟩
   ·exact ih
theorem woL_tot (t:Tr) (m:Int):∀ bs:List (Tr × Int),tot (woL t m bs)<=tot bs
 | []=>Nat.le_refl _
 | p::r=>by
  have ih:=woL_tot t m r
  rw [woL]
  split
  ·simp only [tot]; omega
  ·split
   ·simp only [tot]; omega
   ·simp only [tot]; omega
theorem woL_len (t:Tr) (m:Int):∀ bs:List (Tr × Int),(woL t m bs).length<=bs.length
 | []=>Nat.le_refl _
 | p::r=>by
  have ih:=woL_len t m r
  rw [woL]
  split
  ·simp only [List.length_cons]; omega
  ·split
   ·simp only [List.length_cons]; omega
   ·simp only [List.length_cons]; omega
theorem sumE_woL {t:Tr} {m:Int} (x:Tr):∀ {bs:List (Tr × Int)},bs.Pairwise (fun p q=>p.1 ≠ q.1)->(∀ p ∈ bs,0 < p.2)->0<=m->sumE (woL t m bs) x=if x=t then (if m < sumE bs t then sumE bs t-m else 0) else sumE bs x
 | [],_,_,hm=>by
  show (0:Int)=if x=t then (if m < 0 then 0-m else 0) else 0
  split
  ·rw [if_neg (by omega)]
  ·rfl
 | p::r,h,hp,hm=>by
  obtain ⟨h1,h2⟩:=List.pairwise_cons.mp h
  have ih:=sumE_woL (t:=t) (m:=m) x h2 (fun q hq=>hp q (by simp [hq])) hm
  rw [woL]
  by_cases e:p.1=t
  ·rw [if_neg (by simpa using e)]
   have hr:∀ q ∈ r,q.1 ≠ t:=fun q hq z=>h1 q hq (by rw [e,z])
   have z0:sumE r t=0:=S_zero hr
   rw [woL_none hr,z04 p r t,if_pos e,z0,Int.add_zero]
   by_cases hlt:m < p.2
   ·rw [if_pos hlt,if_pos hlt,z04]
    by_cases hx:x=t
    ·rw [if_pos hx,hx,if_pos (by exact e),z0]; simp
    ·rw [if_neg hx,if_neg (by rw [e]; exact fun z=>hx z.symm),z04,if_neg (by rw [e]; exact fun z=>hx z.symm)]
   ·rw [if_neg hlt,if_neg hlt]
    by_cases hx:x=t
    ·rw [if_pos hx,hx,z0]
    ·rw [if_neg hx,z04,if_neg (by rw [e]; exact fun z=>hx z.symm),Int.zero_add]
  ·rw [if_pos e,z04,ih,z04 p r t,if_neg e,Int.zero_add]
   by_cases hx:x=t
   ·rw [if_pos hx,if_pos hx,hx,if_neg e,Int.zero_add]
   ·rw [if_neg hx,if_neg hx,z04]
/-- without so many of a tree -/
def wo (g:Gr) (t:Tr) (m:Int):Gr:=ofPs (woL t m g.ps)
theorem wo_ps (g:Gr) (t:Tr) (m:Int):(wo g t m).ps=woL t m g.ps:=ps_ofPs _
variable {C D E:Int} {g k:Gr}
theorem ok_ne (h:g.Ok C):g.ps.Pairwise (fun p q=>p.1 ≠ q.1):=(ok_iff.mp h).2.imp fun z=>zeg z
theorem ok_pos (h:g.Ok C):∀ p ∈ g.ps,0 < p.2:=fun p hp=>by have:=((ok_iff.mp h).1 p hp).2.2.1; omega
theorem wo_ok (h:g.Ok C) {t:Tr} {m:Int} (hm:0<=m):(wo g t m).Ok C:=by
 obtain ⟨h1,h2⟩:=ok_iff.mp h
 refine ok_ps.mpr ⟨fun p hp=>?_,woL_pair (R:=fun a b=>dataLt (tEnc a) (tEnc b)=true) h2⟩
 obtain ⟨q,hq,e,l,o⟩:=woL_mem hm hp
 obtain ⟨a,b,c,d⟩:=h1 q hq
 rw [<- e]
 exact ⟨a,b,o c,by omega⟩
theorem S_wo (h:g.Ok C) {t:Tr} {m:Int} (hm:0<=m) (x:Tr):S (wo g t m) x=if x=t then (if m < S g t then S g t-m else 0) else S g x:=by
 show sumE (wo g t m).ps x=_
 rw [wo_ps]; exact sumE_woL x (ok_ne h) (ok_pos h) hm
theorem wo_parts (g:Gr) (t:Tr) (m:Int):(wo g t m).parts<=g.parts:=by
 rw [wo,parts_ofPs,<- tot_ps g]; exact woL_tot _ _ _
theorem wo_len (g:Gr) (t:Tr) (m:Int):(wo g t m).ps.length<=g.ps.length:=by rw [wo_ps]; exact woL_len _ _ _
theorem wo_deep (g:Gr) (t:Tr) (m:Int):(wo g t m).deep<=g.deep:=by
 refine deep_le fun p hp=>?_
 rw [wo_ps] at hp
 obtain ⟨q,hq,e⟩:=woL_key hp
 rw [<- e]; exact mem_deep g q hq
theorem sumE_mem:∀ {bs:List (Tr × Int)},bs.Pairwise (fun p q=>p.1 ≠ q.1)->∀ p ∈ bs,sumE bs p.1=p.2
 | [],_,_,h=>nomatch h
 | q::r,h,p,hp=>by
  obtain ⟨h1,h2⟩:=List.pairwise_cons.mp h
  rw [z04]
  rcases List.mem_cons.mp hp with e | hp
  ·rw [e,if_pos rfl,S_zero fun q' hq' z=>h1 q' hq' z.symm,Int.add_zero]
  ·rw [if_neg (h1 p hp),Int.zero_add]; exact sumE_mem h2 p hp
theorem S_mem (h:g.Ok C) {p:Tr × Int} (hp:p ∈ g.ps):S g p.1=p.2:=sumE_mem (ok_ne h) p hp
theorem S_cases (h:g.Ok C) (x:Tr):(S g x=0/\∀ p ∈ g.ps,p.1 ≠ x)\/∃ m,(x,m) ∈ g.ps/\S g x=m/\1<=m/\m < C:=by
 by_cases e:∃ p ∈ g.ps,p.1=x
 ·obtain ⟨p,hp,rfl⟩:=e
  obtain ⟨_,_,c,d⟩:=(ok_iff.mp h).1 p hp
  exact .inr ⟨p.2,hp,S_mem h hp,c,d⟩
 ·have h':∀ p ∈ g.ps,p.1 ≠ x:=fun p hp z=>e ⟨p,hp,z⟩
  exact .inl ⟨S_zero h',h'⟩
theorem S_nonneg (h:g.Ok C) (x:Tr):0<=S g x:=by
 rcases S_cases h x with ⟨e,_⟩ | ⟨m,_,e,h1,_⟩
 ·omega
 ·omega
theorem S_lt (h:g.Ok C) (hC:1<=C) (x:Tr):S g x < C:=by
 rcases S_cases h x with ⟨e,_⟩ | ⟨m,_,e,_,h1⟩
 ·omega
 ·omega
theorem S_pos (h:g.Ok C) {x:Tr} (hx:1<=S g x):∃ m,(x,m) ∈ g.ps/\S g x=m:=by
 rcases S_cases h x with ⟨e,_⟩ | ⟨m,h1,e,_⟩
 ·omega
 ·exact ⟨m,h1,e⟩
/-- two groves together,by what the numbers come to -/
theorem tgt_okM (hg:∀ p ∈ g.ps,z01 p.1.1/\p.1.2.Ok E/\1<=p.2) (hk:∀ p ∈ k.ps,z01 p.1.1/\p.1.2.Ok E/\1<=p.2) (h:∀ t,S g t+S k t < E):(tgt g k).Ok E:=by
 have hr:=z8g (enc:=tEnc) (g.ps++k.ps)
 have hall:∀ p ∈ g.ps++k.ps,z01 p.1.1/\p.1.2.Ok E/\1<=p.2:=fun p hp=>(List.mem_append.mp hp).elim (hg p) (hk p)
 refine ok_ps.mpr ⟨fun p hp=>?_,hr⟩
 obtain ⟨q,hq,e⟩:=z17 (enc:=tEnc) _ p hp
 obtain ⟨a,b,_⟩:=hall q hq
 have h1:=(z9r (enc:=tEnc) (fun p hp=>(hall p hp).2.2) p hp).1
 have e2:sumE (tdy tEnc (g.ps++k.ps)) p.1=p.2:=sumE_mem (hr.imp fun z=>zeg z) p hp
 rw [z5s,z0f] at e2
 have:=h p.1
 refine ⟨e ▸ a,e ▸ b,h1,?_⟩
 show p.2 < E
 rw [<- e2]; exact this
theorem ok_three (h:g.Ok C) (hC:C<=E):∀ p ∈ g.ps,z01 p.1.1/\p.1.2.Ok E/\1<=p.2:=fun p hp=>by
 obtain ⟨a,b,c,_⟩:=(ok_iff.mp h).1 p hp
 exact ⟨a,b.mono hC,c⟩
theorem tgt_ok2 (hg:g.Ok C) (hk:k.Ok D) (hC:1<=C) (hD:1<=D):(tgt g k).Ok (C+D):=by
 refine tgt_okM (ok_three hg (by omega)) (ok_three hk (by omega)) fun t=>?_
 have:=S_lt hg hC t
 have:=S_lt hk hD t
 omega
theorem tgt_nil (hg:g.Ok C):tgt g .nil=g:=by
 have hS:∀ t,S (tgt g .nil) t=S g t:=fun t=>by rw [S_tgt]; exact Int.add_zero _
 cases g with
 | nil=>exact ext (tgt_ok2 (C:=1) (D:=1) (g:=.nil) (k:=.nil) trivial trivial (by omega) (by omega)) hg hS
 | cons n h m r =>
  have hC:1<=C:=by have:=hg.2.2.1; have:=hg.2.2.2.1; omega
  exact ext (tgt_ok2 hg (k:=.nil) (D:=1) trivial hC (by omega)) hg hS
/-- so many of each tree -/
def tmsL (m:Int) (bs:List (Tr × Int)):List (Tr × Int):=bs.map fun p=>(p.1,p.2*m)
def tmsG (g:Gr) (m:Int):Gr:=if m=0 then .nil else ofPs (tmsL m g.ps)
theorem tot_tms (m:Int):∀ bs:List (Tr × Int),tot (tmsL m bs)=tot bs
 | []=>rfl
 | p::r=>by
  show 1+p.1.2.parts+tot (tmsL m r)=1+p.1.2.parts+tot r
  rw [tot_tms m r]
theorem tms_parts (g:Gr) (m:Int):(tmsG g m).parts<=g.parts:=by
 rw [tmsG]
 split
 ·exact Nat.zero_le _
 ·rw [parts_ofPs,tot_tms,tot_ps]; exact Nat.le_refl _
theorem tms_len (g:Gr) (m:Int):(tmsG g m).ps.length<=g.ps.length:=by
 rw [tmsG]
 split
 ·exact Nat.zero_le _
 ·rw [ps_ofPs,tmsL,List.length_map]; exact Nat.le_refl _
theorem tms_key {m:Int} {p:Tr × Int} (hp:p ∈ (tmsG g m).ps):∃ q ∈ g.ps,q.1=p.1:=by
 rw [tmsG] at hp
 split at hp
 ·exact nomatch hp
 ·rw [ps_ofPs] at hp
  obtain ⟨q,hq,e⟩:=List.mem_map.mp hp
  exact ⟨q,hq,by rw [<- e]⟩
theorem tms_deep (g:Gr) (m:Int):(tmsG g m).deep<=g.deep:=by
 refine deep_le fun p hp=>?_
 obtain ⟨q,hq,e⟩:=tms_key hp
 rw [<- e]; exact mem_deep g q hq
theorem tms_ok (h:g.Ok C) (hC:1<=C) {m:Int} (hm:0<=m):(tmsG g m).Ok (C*m+C):=by
 have hle:C<=C*m+C:=by have:=Int.mul_nonneg (show (0:Int)<=C by omega) hm; omega
 rw [tmsG]
 split
 ·trivial
 ·obtain ⟨h1,h2⟩:=ok_iff.mp h
  refine ok_ps.mpr ⟨fun p hp=>?_,?_⟩
  ·obtain ⟨q,hq,rfl⟩:=List.mem_map.mp hp
   obtain ⟨a,b,c,d⟩:=h1 q hq
   have m1:1<=m:=by omega
   refine ⟨a,b.mono hle,?_,?_⟩
   ·show 1<=q.2*m
    have:=Int.mul_le_mul c m1 (by omega) (by omega)
    omega
   ·show q.2*m < C*m+C
    have:=Int.mul_le_mul_of_nonneg_right (show q.2<=C by omega) hm
    omega
  ·exact List.pairwise_map.mpr (h2.imp fun z=>z)
/-- the place of a tree among the trees of a grove -/
def pos (g:Gr) (t:Tr):Nat:=(g.ps.map (·.1)).idxOf t
theorem pos_at (h:g.Ok C) {t:Tr} {m:Int} (hp:(t,m) ∈ g.ps):g.ps[pos g t]?=some (t,m):=by
 have ht:t ∈ g.ps.map (·.1):=List.mem_map.mpr ⟨_,hp,rfl⟩
 have hl:pos g t < (g.ps.map (·.1)).length:=List.idxOf_lt_length_of_mem ht
 have hl2:pos g t < g.ps.length:=by rwa [List.length_map] at hl
 have e:(g.ps.map (·.1))[pos g t]=t:=List.getElem_idxOf hl
 rw [List.getElem_map] at e
 rw [List.getElem?_eq_getElem hl2]
 have hm:=List.getElem_mem hl2
 have e1:=S_mem h hm
 have e2:=S_mem h hp
 rw [e] at e1
 have e3:(g.ps[pos g t]).2=m:=by rw [<- e1]; exact e2
 exact congrArg some (Prod.ext e e3)
theorem pos_of (h:g.Ok C) {i:Nat} {p:Tr × Int} (hp:g.ps[i]?=some p):pos g p.1=i:=by
 have h1:=pos_at (t:=p.1) (m:=p.2) h (List.mem_of_getElem? hp)
 obtain ⟨hi,ei⟩:=List.getElem?_eq_some_iff.mp hp
 obtain ⟨hj,ej⟩:=List.getElem?_eq_some_iff.mp h1
 have nd:(g.ps.map (·.1)).Nodup:=List.pairwise_map.mpr (ok_ne h)
 refine (List.getElem?_inj (by rw [List.length_map]; exact hj) nd).mp ?_
 rw [List.getElem?_map,List.getElem?_map,h1,hp]
/-- all names of a grove are among these -/
def Named (ns:List Str) (g:Gr):Prop:=∀ x ∈ g.within,x.1.1 ∈ ns
theorem named_iff {ns:List Str}:Named ns g ↔ ∀ p ∈ g.ps,p.1.1 ∈ ns/\Named ns p.1.2:=by
 unfold Named
 rw [within_ps]
 constructor
 ·intro h p hp
  exact ⟨h p (List.mem_flatMap.mpr ⟨p,hp,by simp⟩),fun x hx=>h x (List.mem_flatMap.mpr ⟨p,hp,by simp [hx]⟩)⟩
 ·intro h x hx
  obtain ⟨p,hp,hx⟩:=List.mem_flatMap.mp hx
  rcases List.mem_cons.mp hx with e | hx
  ·rw [e]; exact (h p hp).1
  ·exact (h p hp).2 x hx
theorem named_wo {ns:List Str} (h:Named ns g) (t:Tr) (m:Int):Named ns (wo g t m):=named_iff.mpr fun p hp=>by
 rw [wo_ps] at hp
 obtain ⟨q,hq,e⟩:=woL_key hp
 rw [<- e]; exact named_iff.mp h q hq
theorem named_tms {ns:List Str} (h:Named ns g) (m:Int):Named ns (tmsG g m):=named_iff.mpr fun p hp=>by
 obtain ⟨q,hq,e⟩:=tms_key hp
 rw [<- e]; exact named_iff.mp h q hq
theorem named_tgt {ns:List Str} (h:Named ns g) (h2:Named ns k):Named ns (tgt g k):=named_iff.mpr fun p hp=>by
 rw [tgt_ps] at hp
 obtain ⟨q,hq,e⟩:=z17 (enc:=tEnc) _ p hp
 rw [<- e]
 rcases List.mem_append.mp hq with hq | hq
 ·exact named_iff.mp h q hq
 ·exact named_iff.mp h2 q hq
/-- one kind of tree,so many -/
def one (t:Tr) (m:Int):Gr:=.cons t.1 t.2 m .nil
theorem one_ps (t:Tr) (m:Int):(one t m).ps=[(t,m)]:=rfl
theorem S_one (t:Tr) (m:Int) (x:Tr):S (one t m) x=if t=x then m else 0:=by
 show sumE [(t,m)] x=_
 rw [z04]; exact Int.add_zero _
theorem one_ok {t:Tr} {m:Int} (h1:z01 t.1) (h2:t.2.Ok C) (h3:1<=m) (h4:m < C):(one t m).Ok C:=⟨h1,h2,h3,h4,trivial,fun _ h=>nomatch h⟩
theorem named_one {ns:List Str} {t:Tr} (h:t.1 ∈ ns) (h2:Named ns t.2) (m:Int):Named ns (one t m):=named_iff.mpr fun p hp=>by
 rw [one_ps] at hp
 rw [List.mem_singleton.mp hp]; exact ⟨h,h2⟩
end Gr
def Wd (d:PyData):Prop:=d.canLay0=true/\d.depth<=190
theorem Wd.of {d:PyData} (h:SeqAt.shaped d=true):Wd d:=⟨SeqAt.canLay_of_shaped h,by have:=SeqAt.depth_of_shaped h; omega⟩
def rEqW (K:PySem.W.Frag):R2:=fun x y H Q=>∃ d e,Dp K H x d/\Dp K H y e/\Wd d/\Wd e/\Q (.bl (PyData.eqv d e)) H
def rNeW (K:PySem.W.Frag):R2:=fun x y H Q=>∃ d e,Dp K H x d/\Dp K H y e/\Wd d/\Wd e/\Q (.bl (!PyData.eqv d e)) H
section
variable {X:Cx}
theorem zbp {n:Nat} {d e:PyData} (hd:Wd d) (hu:n+195 < cLine):n+min d.depth e.depth < cLine:=by
 have h1:=hd.2
 have h2:min d.depth e.depth<=d.depth:=Nat.min_le_left ..
 omega
theorem z6w (hu:X.A.units+195 < cLine):OpR X (compareOp .Eq) (rEqW X.K):=by
 intro pn s σ H a b v1 v2 Q I ra rb ⟨d,e,da,db,wd,we,q⟩
 obtain ⟨l1,k1⟩:=Dp.reads I d a v1 da ra
 obtain ⟨l2,k2⟩:=Dp.reads I e b v2 db rb
 exact SeqAt.compareEq_reads k1 k2 wd.1 we.1 (zbp wd hu) ⟨.bl _,H,I,rfl,q⟩
theorem zbw (hu:X.A.units+195 < cLine):OpR X (compareOp .NotEq) (rNeW X.K):=by
 intro pn s σ H a b v1 v2 Q I ra rb ⟨d,e,da,db,wd,we,q⟩
 obtain ⟨l1,k1⟩:=Dp.reads I d a v1 da ra
 obtain ⟨l2,k2⟩:=Dp.reads I e b v2 db rb
 exact SeqAt.compareNe_reads k1 k2 wd.1 we.1 (zbp wd hu) ⟨.bl _,H,I,rfl,q⟩
def zfn (K:PySem.W.Frag):V->List V->Hp->VK->Prop:=fun x xs H Q=>∃ (a:Addr) (y:V) (d:PyData) (ds:List PyData) (j:Nat) (z:PyData),x=V.ref a/\xs=[y]/\Dp K H (V.ref a) (.list ds)/\Dp K H y d /\
 PyData.canLayAll0 ds=true/\Wd d/\ds[j]?=some z/\PyData.eqv z d=true/\(∀ (m:Nat) (z':PyData),m < j->ds[m]?=some z'->PyData.eqv z' d=false)/\Q (.int (j:Nat)) H
theorem zbl (hu:X.A.units+196 < cLine):MtR X "list.index" (zfn X.K):=by
 intro pn s σ H x xs v us Q I rx rs ⟨a,y,d,ds,j,z,ex,exs,dl,dy,lay,wd,ez,eqz,before,q⟩
 subst ex exs
 cases rx
 cases rs with
 | cons ry rt =>
  rename_i uy ut
  cases rt
  obtain ⟨ls,k1⟩:=Dp.reads I d y uy dy ry
  have room:X.A.units+1+min (PyData.depthAll ds) d.depth < cLine:=by
   have h1:=wd.2
   have h2:min (PyData.depthAll ds) d.depth<=d.depth:=Nat.min_le_right ..
   omega
  cases dl with
  | lst dh da =>
   obtain ⟨its,vals,⟨⟨c1,c2,c3,c4⟩,cnt,hget,hcls,hdict,hdata⟩,hlen⟩:=I.list dh
   simp only at hcls hdata
   subst hcls hdata
   obtain ⟨ms,k2⟩:=Dp.readsAll I ds _ its da vals
   have el:its.length=ds.length:=SeqAt.ReadsAll.length ds its ms k2
   have em:its.map (SeqAt.readOf s.heap)=ds:=SeqAt.readsAll_map ds its ms lay k2
   have szl:=sizeLine_eq
   have vlen:=vals.length
   obtain ⟨jd,_⟩:=List.getElem?_eq_some_iff.mp ez
   have jl:j < its.length:=by omega
   have ja:j < its.toArray.size:=by simpa using jl
   have look:∀ (m:Nat) (hm:m < its.toArray.size) (z':PyData),ds[m]?=some z'->SeqAt.readOf s.heap its.toArray[m]=z':=by
    intro m hm z' e
    have hm':m < its.length:=by simpa using hm
    rw [<- em,List.getElem?_map,List.getElem?_eq_getElem hm'] at e
    have e':=Option.some.inj (show some (SeqAt.readOf s.heap its[m])=some z' from e)
    simpa using e'
   refine call_meets PySem.F.slot_list_index ⟨_,hget,rfl⟩ PySem.F.entry_list_index (PySem.F.args_list_index_2 _ _)
    (SeqAt.list_indexAt a its.toArray cnt c2 c4 uy (fun u=>PyData.eqv (SeqAt.readOf s.heap u) d) j ja (by omega) ?_ ?_) ⟨hget,SeqAt.items_eqAt (vs:=its.toArray) (show ReadsAll s.heap its.toArray.toList ds ms from k2) k1 lay wd.1 room,?_⟩
   ·show PyData.eqv (SeqAt.readOf s.heap its.toArray[j]) d=true
    rw [look j ja z ez]; exact eqz
   ·intro m hm hmj
    have e:ds[m]?=some ds[m]:=List.getElem?_eq_getElem (show m < ds.length by omega)
    show PyData.eqv (SeqAt.readOf s.heap its.toArray[m]) d=false
    rw [look m hm _ e]; exact before m _ hmj e
   ·exact ⟨.int (j:Nat),H,I.tok _,⟨_,rfl⟩,q⟩
/-- sorted(xs),xs a list or a tuple of data that are alike,up to 190 deep -/
def zdb (K:PySem.W.Frag) {β:Type} (enc:β->PyData) (vs:List V) (H:Hp) (Q:VK):Prop:=∃ (a:Addr) (xs:List V) (bs:List β),vs=[V.ref a]/\(SqL K H a xs\/SqT K H a xs)/\Bears K H enc xs bs/\AllAlike (bs.map enc)/\Sortable (bs.map enc)/\bs.length<=10000/\(∀ b ∈ bs,(enc b).depth<=190) /\
 ∀ (p:Addr) (ys:List V),H p=none->Bears K H enc ys (bs.mergeSort (dataLe false enc))->Q (.ref p) (upd H p (.lst ys))
theorem zav {β:Type} (enc:β->PyData) (hu:X.A.units+195 < cLine):CallR X (.builtin "sorted") (zdb X.K enc):=by
 intro pn s σ H vs us Q I r ⟨a,xs,bs,e,hs,hb,hal,hsr,hl,hd,q⟩
 subst e
 rw [Vals.ref1 r]
 rcases hs with hs | hs
 ·obtain ⟨its,rv,hli,_⟩:=I.list hs
  obtain ⟨e1,e2⟩:=z35 I hb rv
  refine z60 (kw:=[]) (vs:=its) (bs:=bs) (enc:=enc) (b:=false) (R:=fun u b=>∃ v,RelV v u/\Dp X.K H v (enc b)) plain_is_rev (args_sorted1 _) (fun _=>args_list_sort _) hli e1 e2 hal hsr (by rw [sizeLine_eq]; omega) (fun b m=>by have:=hd b m; omega) fun out h' h2 n k1 k2 hat ho h1=>?_
  obtain ⟨ys,g2,g3⟩:=z39 h1
  have I':Inv X pn σ H { s with heap:=h' }:=I.kept (t':=s.toks) k1
  have hlen:ys.length<=sizeLine:=by rw [g2.length,ho,sizeLine_eq]; omega
  exact ⟨.ref _,upd H h'.objs.size (.lst ys),I'.laid (t':=s.toks) (fun b o e=>k2 b o e) (Nat.le_refl _) ⟨hlen,out,n,g2,hat⟩,rfl,q _ ys (I'.hok.fresh (Nat.le_refl _)) g3⟩
 ·obtain ⟨its,rv,hli,_⟩:=I.tuple hs
  obtain ⟨e1,e2⟩:=z35 I hb rv
  refine z61 (kw:=[]) (vs:=its) (bs:=bs) (enc:=enc) (b:=false) (R:=fun u b=>∃ v,RelV v u/\Dp X.K H v (enc b)) plain_is_rev (args_sorted1 _) (fun _=>args_list_sort _) hli e1 e2 hal hsr (by rw [sizeLine_eq]; omega) (fun b m=>by have:=hd b m; omega) fun out h' h2 n k1 k2 hat ho h1=>?_
  obtain ⟨ys,g2,g3⟩:=z39 h1
  have I':Inv X pn σ H { s with heap:=h' }:=I.kept (t':=s.toks) k1
  have hlen:ys.length<=sizeLine:=by rw [g2.length,ho,sizeLine_eq]; omega
  exact ⟨.ref _,upd H h'.objs.size (.lst ys),I'.laid (t':=s.toks) (fun b o e=>k2 b o e) (Nat.le_refl _) ⟨hlen,out,n,g2,hat⟩,rfl,q _ ys (I'.hok.fresh (Nat.le_refl _)) g3⟩
end
theorem Gr.wd {C:Int} {g:Gr} (h:g.Ok C) (hd:g.deep<=63):Wd g.enc:=⟨by simp [Gr.enc,PyData.canLay0,Gr.lays h],by have:=g.enc_depth; omega⟩
theorem Gr.wd_t {C:Int} {t:Tr} (h0:z01 t.1) (h:t.2.Ok C) (hd:t.2.deep<=62):Wd (Gr.tEnc t):=⟨by simp [Gr.tEnc,Gr.enc,PyData.canLay0,PyData.canLayAll0,Gr.lays h,Gr.strOk_name h0],by have:=Gr.tEnc_depth t; omega⟩
theorem Gr.lay_ts {C:Int}:∀ {ps:List (Tr × Int)},(∀ p ∈ ps,z01 p.1.1/\p.1.2.Ok C)->PyData.canLayAll0 (ps.map fun p=>Gr.tEnc p.1)=true
 | [],_=>by simp [PyData.canLayAll0]
 | p::r,h=>by
  obtain ⟨a,b⟩:=h p (by simp)
  rw [List.map_cons,PyData.canLayAll0,lay_ts fun q hq=>h q (by simp [hq])]
  simp [Gr.tEnc,Gr.enc,PyData.canLay0,PyData.canLayAll0,Gr.lays b,Gr.strOk_name a]
theorem Gr.t_eqv (a b:Tr):PyData.eqv (Gr.tEnc a) (Gr.tEnc b)=decide (a=b):=Orderly.eq a b
/-- how many further ones a kind that spreads is grown by -/
def Bk.far (b:Bk) (k:Str) (n:Int):Int:=match b.get k with
 | some kd=>if kd.w=true then n else 0
 | none=>0
theorem Bk.far_le (b:Bk) (k:Str) {n:Int} (h:0<=n):0<=b.far k n/\b.far k n<=n:=by
 unfold Bk.far
 split
 ·split <;> omega
 ·omega
namespace Gr
variable {b:Bk} {n:Int} {C F E:Int} {g fr:Gr}
/-- a rule's groves,grown -/
def grw (r:Ru) (n:Int):Gr:=tgt r.1 (tmsG r.2 n)
theorem grw_ok {r:Ru} (h:RuOk r) (hn:0<=n):(grw r n).Ok (1000000001*n+2000000002):=by
 have h2:=tms_ok h.2.1 (by omega) hn
 exact (tgt_ok2 h.1 h2 (by omega) (by omega)).mono (by omega)
theorem grw_parts {r:Ru} (h:RuOk r) (n:Int):(grw r n).parts<=4:=by
 have h1:=tgt_parts r.1 (tmsG r.2 n)
 have h2:=tms_parts r.2 n
 have h3:=h.2.2
 unfold grw
 omega
theorem grw_deep {r:Ru} (h:RuOk r) (n:Int):(grw r n).deep<=4:=by
 have h1:=z0d (grw r n)
 have h2:=grw_parts h n
 omega
theorem grw_named {r:Ru} {ns:List Str} (h:∀ p ∈ Ru.within r,p.1.1 ∈ ns) (n:Int):Named ns (grw r n) :=
 named_tgt (fun x hx=>h x (mal _ hx)) (named_tms (fun x hx=>h x (mar _ hx)) n)
theorem grw_nil (hn:0<=n):grw (.nil,.nil) n=.nil:=by
 have h:(tmsG .nil n)=.nil:=by
  unfold tmsG
  split <;> rfl
 show tgt .nil (tmsG .nil n)=.nil
 rw [h]; exact tgt_nil (C:=1) trivial
/-- struck: the grove at a place,with what is laid there,and the new place of what holds it -/
def stk (b:Bk) (n:Int) (fr:Gr):Pl->Gr->Gr × Pl
 | [],g=>(g,[])
 | i::r,g=>match g.ps[i]? with
  | none=>(g,[])
  | some p=>if r=[] then (tgt (wo g p.1 1) fr,[]) else
    (tgt (wo g p.1 1) (one (p.1.1,(stk b n fr r p.1.2).1) (1+b.far p.1.1 n)),pos (tgt (wo g p.1 1) (one (p.1.1,(stk b n fr r p.1.2).1) (1+b.far p.1.1 n))) (p.1.1,(stk b n fr r p.1.2).1)::(stk b n fr r p.1.2).2)
/-- a place of a tree that holds nothing,of this kind -/
def bareAt:Gr->Pl->Option Str
 | _,[]=>none
 | g,i::r=>match g.ps[i]? with
  | none=>none
  | some p=>if r=[] then (if p.1.2=.nil then some p.1.1 else none) else bareAt p.1.2 r
theorem stk_one {i:Nat} {p:Tr × Int} (e:g.ps[i]?=some p):stk b n fr [i] g=(tgt (wo g p.1 1) fr,[]):=by
 rw [stk,e]; rfl
/-- the changed tree,and the changed row -/
def chg (b:Bk) (n:Int) (fr:Gr) (r:Pl) (p:Tr × Int):Tr:=(p.1.1,(stk b n fr r p.1.2).1)
def chR (b:Bk) (n:Int) (fr:Gr) (r:Pl) (g:Gr) (p:Tr × Int):Gr:=tgt (wo g p.1 1) (one (chg b n fr r p) (1+b.far p.1.1 n))
theorem stk_more {i:Nat} {r:Pl} {p:Tr × Int} (e:g.ps[i]?=some p) (hr:r ≠ []):stk b n fr (i::r) g=(chR b n fr r g p,pos (chR b n fr r g p) (chg b n fr r p)::(stk b n fr r p.1.2).2):=by
 rw [stk,e]
 simp only [if_neg hr]
 rfl
theorem bare_one {i:Nat} {k:Str} (h:bareAt g [i]=some k):∃ p,g.ps[i]?=some p/\p.1=(k,.nil):=by
 rw [bareAt] at h
 cases e:g.ps[i]? with
 | none=>rw [e] at h; cases h
 | some p =>
  rw [e] at h
  simp only [if_true] at h
  by_cases z:p.1.2=.nil
  ·rw [if_pos z] at h
   exact ⟨p,rfl,Prod.ext (Option.some.inj h) z⟩
  ·rw [if_neg z] at h; cases h
theorem bare_more {i:Nat} {r:Pl} {k:Str} (hr:r ≠ []) (h:bareAt g (i::r)=some k):∃ p,g.ps[i]?=some p/\bareAt p.1.2 r=some k:=by
 rw [bareAt] at h
 cases e:g.ps[i]? with
 | none=>rw [e] at h; cases h
 | some p =>
  rw [e] at h
  simp only [if_neg hr] at h
  exact ⟨p,rfl,h⟩
theorem bare_ne {pl:Pl} {k:Str} (h:bareAt g pl=some k):pl ≠ []:=fun z=>by rw [z] at h; cases h
theorem wo_okM {t:Tr} {m:Int} (h:g.Ok C) (hm:0<=m) (hC:C<=E):∀ p ∈ (wo g t m).ps,z01 p.1.1/\p.1.2.Ok E/\1<=p.2:=ok_three (wo_ok h hm) hC
theorem S_wo_le (h:g.Ok C) {t:Tr} {m:Int} (hm:0<=m) (x:Tr):S (wo g t m) x<=S g x:=by
 rw [S_wo h hm]
 split
 ·next e=>
  subst e
  have:=S_nonneg h x
  split <;> omega
 ·exact Int.le_refl _
theorem ok_mem (h:g.Ok C) {p:Tr × Int} (hp:p ∈ g.ps):z01 p.1.1/\p.1.2.Ok C/\1<=p.2/\p.2 < C:=(ok_iff.mp h).1 p hp
theorem C_pos {p:Tr × Int} (h:g.Ok C) (hp:p ∈ g.ps):2<=C:=by have:=(ok_mem h hp).2.2; omega
theorem stk_ok (hn:0<=n) (hF:1<=F) (hfr:fr.Ok F):∀ {pl:Pl} {g:Gr} {k:Str},g.Ok C->bareAt g pl=some k->(stk b n fr pl g).1.Ok (C+F+n+2)
 | [],_,_,_,h=>nomatch h
 | i::r,g,k,ho,h=>by
  by_cases hr:r=[]
  ·subst hr
   obtain ⟨p,e,_⟩:=bare_one h
   rw [stk_one e]
   have hC:=C_pos ho (List.mem_of_getElem? e)
   exact (tgt_ok2 (wo_ok ho (by omega)) hfr (by omega) hF).mono (by omega)
  ·obtain ⟨p,e,h2⟩:=bare_more hr h
   rw [stk_more e hr]
   have pm:=List.mem_of_getElem? e
   have hC:=C_pos ho pm
   obtain ⟨a,o,_,_⟩:=ok_mem ho pm
   have ih:=stk_ok hn hF hfr o h2
   obtain ⟨f1,f2⟩:=Bk.far_le b p.1.1 hn
   refine tgt_okM (wo_okM ho (by omega) (by omega)) (fun q hq=>?_) fun t=>?_
   ·rw [one_ps] at hq
    rw [List.mem_singleton.mp hq]
    exact ⟨a,ih,by show 1<=1+b.far p.1.1 n; omega⟩
   ·have h1:=S_wo_le ho (t:=p.1) (m:=1) (by omega) t
    have h3:=S_lt ho (by omega) t
    rw [S_one]
    split <;> omega
theorem stk_parts:∀ {pl:Pl} {g:Gr} {k:Str},bareAt g pl=some k->(stk b n fr pl g).1.parts<=pl.length*(g.parts+1)+fr.parts
 | [],_,_,h=>nomatch h
 | i::r,g,k,h=>by
  by_cases hr:r=[]
  ·subst hr
   obtain ⟨p,e,_⟩:=bare_one h
   rw [stk_one e]
   have h1:=tgt_parts (wo g p.1 1) fr
   have h2:=wo_parts g p.1 1
   simp only [List.length_cons,List.length_nil]
   omega
  ·obtain ⟨p,e,h2⟩:=bare_more hr h
   rw [stk_more e hr]
   have pm:=List.mem_of_getElem? e
   have ih:=stk_parts h2
   have h3:=tgt_parts (wo g p.1 1) (one (chg b n fr r p) (1+b.far p.1.1 n))
   have h4:=wo_parts g p.1 1
   have h5:(one (chg b n fr r p) (1+b.far p.1.1 n)).parts=1+(stk b n fr r p.1.2).1.parts:=rfl
   have h6:=mem_parts g p pm
   have h7:r.length*(p.1.2.parts+1)<=r.length*(g.parts+1):=Nat.mul_le_mul_left _ (by omega)
   show (chR b n fr r g p).parts<=_
   rw [List.length_cons,Nat.succ_mul]
   unfold chR
   omega
theorem stk_deep:∀ {pl:Pl} {g:Gr} {k:Str},bareAt g pl=some k->(stk b n fr pl g).1.deep<=max g.deep (pl.length-1+fr.deep)
 | [],_,_,h=>nomatch h
 | i::r,g,k,h=>by
  by_cases hr:r=[]
  ·subst hr
   obtain ⟨p,e,_⟩:=bare_one h
   rw [stk_one e]
   have h2:=wo_deep g p.1 1
   exact tgt_deep (by omega) (by simp only [List.length_cons,List.length_nil]; omega)
  ·obtain ⟨p,e,h2⟩:=bare_more hr h
   rw [stk_more e hr]
   have pm:=List.mem_of_getElem? e
   have ih:=stk_deep h2
   have h4:=wo_deep g p.1 1
   have h5:(one (chg b n fr r p) (1+b.far p.1.1 n)).deep=max (1+(stk b n fr r p.1.2).1.deep) 0:=rfl
   have h6:=mem_deep g p pm
   have h7:0 < r.length:=List.length_pos_iff.mpr hr
   refine tgt_deep (by omega) ?_
   rw [h5,List.length_cons]
   omega
theorem bare_len:∀ {pl:Pl} {g:Gr} {k:Str},bareAt g pl=some k->pl.length<=g.deep
 | [],_,_,h=>nomatch h
 | i::r,g,k,h=>by
  by_cases hr:r=[]
  ·subst hr
   obtain ⟨p,e,_⟩:=bare_one h
   have:=mem_deep g p (List.mem_of_getElem? e)
   simp only [List.length_cons,List.length_nil]
   omega
  ·obtain ⟨p,e,h2⟩:=bare_more hr h
   have:=mem_deep g p (List.mem_of_getElem? e)
   have:=bare_len h2
   simp only [List.length_cons]
   omega
theorem stk_named {ns:List Str} (hfr:Named ns fr):∀ {pl:Pl} {g:Gr} {k:Str},bareAt g pl=some k->Named ns g->Named ns (stk b n fr pl g).1
 | [],_,_,h,_=>nomatch h
 | i::r,g,k,h,hg=>by
  by_cases hr:r=[]
  ·subst hr
   obtain ⟨p,e,_⟩:=bare_one h
   rw [stk_one e]
   exact named_tgt (named_wo hg _ _) hfr
  ·obtain ⟨p,e,h2⟩:=bare_more hr h
   rw [stk_more e hr]
   obtain ⟨h3,h4⟩:=named_iff.mp hg p (List.mem_of_getElem? e)
   exact named_tgt (named_wo hg _ _) (named_one (t:=chg b n fr r p) h3 (stk_named hfr h2 h4) _)
theorem stk_plen:∀ {pl:Pl} {g:Gr} {k:Str},bareAt g pl=some k->(stk b n fr pl g).2.length=pl.length-1
 | [],_,_,h=>nomatch h
 | i::r,g,k,h=>by
  by_cases hr:r=[]
  ·subst hr
   obtain ⟨p,e,_⟩:=bare_one h
   rw [stk_one e]; rfl
  ·obtain ⟨p,e,h2⟩:=bare_more hr h
   rw [stk_more e hr]
   have ih:=stk_plen h2
   have h7:0 < r.length:=List.length_pos_iff.mpr hr
   simp only [List.length_cons]
   omega
/-- the tree at a bare place -/
theorem bare_lk:∀ {pl:Pl} {g:Gr} {k:Str} (a:Str),bareAt g pl=some k->lk (a,g) (plO pl)=some (k,.nil)
 | [],_,_,_,h=>nomatch h
 | i::r,g,k,a,h=>by
  have hs:∀ p,g.ps[i]?=some p->stp g (some (i:Int))=some p.1:=fun p e=>by
   show (if 0<=(i:Int) then (g.ps[(i:Int).toNat]?).map (·.1) else none)=_
   rw [if_pos (by omega),Int.toNat_natCast,e]; rfl
  by_cases hr:r=[]
  ·subst hr
   obtain ⟨p,e,e2⟩:=bare_one h
   show (stp g (some (i:Int))).bind (fun u=>lk u (plO []))=_
   rw [hs p e,e2]; rfl
  ·obtain ⟨p,e,h2⟩:=bare_more hr h
   show (stp g (some (i:Int))).bind (fun u=>lk u (plO r))=_
   rw [hs p e]
   exact bare_lk p.1.1 h2
theorem bks_at:∀ {ps:List (Tr × Int)} {j:Nat} {x:Pl × Str},x ∈ bks ps j->∃ i p,ps[i]?=some p/\x ∈ bkP p (j+i)
 | [],_,_,h=>nomatch h
 | p::r,j,x,h=>by
  rcases List.mem_append.mp h with h | h
  ·exact ⟨0,p,rfl,h⟩
  ·obtain ⟨i,q,e,h2⟩:=bks_at h
   exact ⟨i+1,q,e,by rw [show j+(i+1)=j+1+i by omega]; exact h2⟩
theorem bk_bare:∀ (m:Nat) {g:Gr} {x:Pl × Str},x.1.length<=m->x ∈ g.bk 0->bareAt g x.1=some x.2
 | 0,g,x,hl,h=>by
  rw [bk_ps] at h
  obtain ⟨i,p,e,h2⟩:=bks_at h
  unfold bkP at h2
  split at h2
  ·rw [List.mem_singleton.mp h2] at hl; simp at hl
  ·obtain ⟨y,_,rfl⟩:=List.mem_map.mp h2; simp at hl
 | m+1,g,x,hl,h=>by
  rw [bk_ps] at h
  obtain ⟨i,p,e,h2⟩:=bks_at h
  rw [Nat.zero_add] at h2
  unfold bkP at h2
  split at h2
  ·next z =>
   rw [List.mem_singleton.mp h2]
   show bareAt g [i]=_
   rw [bareAt,e]
   simp [z]
  ·obtain ⟨y,hy,rfl⟩:=List.mem_map.mp h2
   have h3:y.1 ≠ []:=by
    rw [bk_ps] at hy
    obtain ⟨i',p',e',h'⟩:=bks_at hy
    unfold bkP at h'
    split at h'
    ·rw [List.mem_singleton.mp h']; simp
    ·obtain ⟨y',_,rfl⟩:=List.mem_map.mp h'; simp
   have ih:=bk_bare m (x:=y) (by simp only [List.length_cons] at hl; omega) hy
   show bareAt g (i::y.1)=_
   rw [bareAt,e]
   simp only [if_neg h3]
   exact ih
end Gr
def z4f (K:PySem.W.Frag) {γ:Type} [DecidableEq γ] (enc:γ->PyData):Sp:=fun vs H Q _=>∃ (a:Addr) (xs:List V) (bs:List (γ × Int)),vs=[.ref a]/\SqL K H a xs/\Bears K H (z0r enc) xs bs/\bs.length<=5000/\(∀ b ∈ bs,Wd (enc b.1)) /\
 ∀ (c:Addr) (ys:List V) (H':Hp),SB [] H H'->SqT K H' c ys->Bears K H' (z0r enc) ys (jn bs)->Q (.ref c) H'
def z23 (K:PySem.W.Frag):Sp:=fun vs H Q _=>∃ (v u:V) (g k:Gr),vs=[v,u]/\GA K H v g/\GA K H u k/\(∃ C,g.Ok C/\k.Ok C)/\g.deep<=63/\k.deep<=63/\g.ps.length<=2100/\k.ps.length<=2100/\∀ (x:V) (H':Hp),SB [] H H'->GA K H' x (Gr.tgt g k)->Q x H'
def z4g (K:PySem.W.Frag):Sp:=fun vs H Q _=>∃ (v u:V) (g:Gr) (t:Tr) (m:Int),vs=[v,u,.int m]/\GA K H v g/\Dp K H u (Gr.tEnc t)/\(∃ C,g.Ok C/\t.2.Ok C)/\z01 t.1/\g.deep<=63/\t.2.deep<=62/\g.ps.length<=5000/\∀ (x:V) (H':Hp),SB [] H H'->GA K H' x (Gr.wo g t m)->Q x H'
def z7b (K:PySem.W.Frag):Sp:=fun vs H Q _=>∃ (v:V) (g:Gr) (m:Int),vs=[v,.int m]/\GA K H v g/\g.ps.length<=5000/\(∀ p ∈ g.ps,0<=p.2/\p.2 < 2 ^ 2000)/\0<=m/\m < 2 ^ 2000/\∀ (x:V) (H':Hp),SB [] H H'->GA K H' x (Gr.tmsG g m)->Q x H'
def z7h (K:PySem.W.Frag):Sp:=fun vs H Q _=>∃ (v u:V) (g:Gr) (t:Tr) (m:Int),vs=[v,u]/\GA K H v g/\Dp K H u (Gr.tEnc t)/\(∃ C,g.Ok C)/\g.deep<=63/\g.ps.length<=5000/\(t,m) ∈ g.ps/\∀ H',SB [] H H'->Q (.int (Gr.pos g t:Nat)) H'
def z72 (K:PySem.W.Frag):Sp:=fun vs H Q _=>∃ (v:V) (r:Ru) (n:Int),vs=[v,.int n]/\Dp K H v (Ru.enc r)/\RuOk r/\0<=n/\n < 2 ^ 900/\∀ (x:V) (H':Hp),SB [] H H'->GA K H' x (Gr.grw r n)->Q x H'
def zab (K:PySem.W.Frag) (C:Addr):Sp:=fun vs H Q _=>∃ (v:V) (b:Bk) (k:Str) (n:Int),vs=[v,.str k,.int n]/\BkA K C H v b/\b.length<=1000/\k ∈ b.names/\∀ H',SB [] H H'->Q (.int (b.far k n)) H'
def z6i (K:PySem.W.Frag) (C:Addr):Sp:=fun vs H Q E=>∃ (v:V) (o:Option Int),vs=[v]/\Wh K H v o/\((∃ n,o=some n/\0<=n)->∀ H',SB [] H H'->Q .non H')/\((∀ n,o=some n->n < 0)->∀ H',SB [] H H'->E (.ref C) none H')
abbrev noR:Ru:=(.nil,.nil)
def z6c (K:PySem.W.Frag) (C R:Addr):Sp:=fun vs H Q E=>∃ (v x:V) (b:Bk) (k:Str) (kd:Kd) (o:Option Int),vs=[v,.str k,x]/\BkA K C H v b/\b.Ok/\b.get k=some kd/\Wh K H x o /\
 (∀ (i:Nat) (r:Ru),o=some (i:Int)->(noR::kd.rs)[i]?=some r->∀ (y:V) (H':Hp),SB [] H H'->Dp K H' y (Ru.enc r)->Q y H')/\((∀ i:Nat,o=some (i:Int)->(noR::kd.rs)[i]?=none)->∀ H',SB [] H H'->E (.ref R) none H')
def z43 (K:PySem.W.Frag) (C:Addr):Sp:=fun vs H Q E=>∃ (v:V) (g:Gr),vs=[v]/\GA K H v g/\g.deep<=68/\g.parts<=200000/\((g.parts<=2000/\g.deep<=60)->∀ H',SB [] H H'->Q .non H')/\(¬ (g.parts<=2000/\g.deep<=60)->∀ H',SB [] H H'->E (.ref C) none H')
def z6a (K:PySem.W.Frag):Sp:=fun vs H Q _=>∃ (v:V) (g:Gr) (ns:List Str),vs=[v]/\GA K H v g/\g.deep<=68/\g.parts<=3000/\Gr.Named ns g/\ns.length<=60/\∀ (l:Addr) (ss:List Str) (H':Hp),SB [] H H'->H l=none->H' l=some (.lst (ss.map V.str))->SrtOf ss (g.within.map (·.1.1))->ss.length<=60->Q (.ref l) H'
def z1p (K:PySem.W.Frag) (C:Addr):Sp:=fun vs H Q E=>∃ (v w:V) (b:Bk) (g:Gr),vs=[v,w]/\BkA K C H v b/\GA K H w g/\b.length<=60/\g.deep<=68/\g.parts<=3000/\Gr.Named b.names g/\∀ H',SB [] H H'->Q .non H'
def z1y (K:PySem.W.Frag) (C:Addr) (m:Nat):Sp:=fun vs H Q _=>∃ (v w fv:V) (a:Addr) (n D F:Int) (b:Bk) (g fr:Gr) (pl:Pl) (k:Str),vs=[v,w,.ref a,fv,.int n]/\(BkA K C H v b/\b.Ok)/\(GA K H w g/\g.Ok D/\g.deep<=60/\g.parts<=2000/\Gr.Named b.names g)/\(GA K H fv fr/\1<=F/\fr.Ok F/\fr.deep<=4/\fr.parts<=4)/\SqT K H a (pl.map fun n:Nat=>V.int (n:Int))/\Gr.bareAt g pl=some k/\pl.length < m/\0<=n /\
 ∀ (t:Addr) (u p:V) (H':Hp),SB [] H H'->SqT K H' t [u,p]->GA K H' u (Gr.stk b n fr pl g).1->Dp K H' p (z0u (Gr.stk b n fr pl g).2)->Q (.ref t) H'
/-- a fall within the bounds -/
def z2d (g:Gr):Prop:=g.parts<=2000/\g.deep<=60
def z2k (K:PySem.W.Frag) (C NP NR NN TG:Addr):Sp:=fun vs H Q E=>∃ (v w x y:V) (a:Addr) (b:Bk) (g:Gr) (D:Int) (xs:List V) (os:List (Option Int)) (ro so:Option Int),vs=[v,w,.ref a,x,y]/\(BkA K C H v b/\b.Ok)/\(GA K H w g/\g.Ok D/\g.deep<=60/\g.parts<=2000/\Gr.Named b.names g)/\(SqT K H a xs/\Whs K H xs os)/\Wh K H x ro/\Wh K H y so/\(∀ n,so=some n->n < 2 ^ 900) /\
 ((∀ pl k,os=plO pl->Gr.bareAt g pl ≠ some k)->∀ H',SB [] H H'->E (.ref NP) none H') /\
 ∀ (pl:Pl) (k:Str) (kd:Kd),os=plO pl->Gr.bareAt g pl=some k->b.get k=some kd ->
  ((∀ i:Nat,ro=some (i:Int)->(noR::kd.rs)[i]?=none)->∀ H',SB [] H H'->E (.ref NR) none H') /\
  ∀ (i:Nat) (r:Ru),ro=some (i:Int)->(noR::kd.rs)[i]?=some r ->
   ((∀ n,so=some n->n < 0)->∀ H',SB [] H H'->E (.ref NN) none H') /\
   ∀ n:Int,so=some n->0<=n ->
    (¬ z2d (Gr.stk b n (Gr.grw r n) pl g).1->∀ H',SB [] H H'->E (.ref TG) none H') /\
    (z2d (Gr.stk b n (Gr.grw r n) pl g).1->∀ (t:Addr) (u p:V) (H':Hp),SB [] H H'->H t=none->SqT K H' t [u,p]->GA K H' u (Gr.stk b n (Gr.grw r n) pl g).1->Dp K H' p (z0u (Gr.stk b n (Gr.grw r n) pl g).2)->Q (.ref t) H')
namespace Gr
variable {b:Bk} {n:Int} {C F:Int} {g fr:Gr}
theorem chR_mem (hn:0<=n) (hF:1<=F) (hfr:fr.Ok F) {i:Nat} {r:Pl} {p:Tr × Int} {k:Str} (ho:g.Ok C) (hr:r ≠ []) (e:g.ps[i]?=some p) (h:bareAt g (i::r)=some k):(∃ D,(chR b n fr r g p).Ok D)/\∃ m,(chg b n fr r p,m) ∈ (chR b n fr r g p).ps:=by
 have h1:=stk_ok (b:=b) hn hF hfr ho h
 rw [stk_more e hr] at h1
 refine ⟨⟨_,h1⟩,?_⟩
 have h2:1<=S (chR b n fr r g p) (chg b n fr r p):=by
  show 1<=S (tgt _ _) _
  rw [S_tgt,S_one,if_pos rfl]
  have:=S_nonneg (wo_ok ho (t:=p.1) (m:=1) (by omega)) (chg b n fr r p)
  have:=(Bk.far_le b p.1.1 hn).1
  omega
 obtain ⟨m,hm,_⟩:=S_pos h1 h2
 exact ⟨m,hm⟩
end Gr
theorem Gr.lk_bare:∀ {os:List (Option Int)} {g:Gr} {a:Str} {t:Tr},os ≠ []->lk (a,g) os=some t->∃ pl,os=plO pl/\(t.2=.nil->Gr.bareAt g pl=some t.1)
 | [],_,_,_,h,_=>absurd rfl h
 | o::r,g,a,t,_,h=>by
  rw [lk] at h
  obtain ⟨u,hu,h2⟩:=Option.bind_eq_some_iff.mp h
  cases o with
  | none=>cases hu
  | some n =>
   change (if 0<=n then (g.ps[n.toNat]?).map (·.1) else none)=some u at hu
   by_cases h0:0<=n
   ·rw [if_pos h0] at hu
    obtain ⟨p,ep,rfl⟩:=Option.map_eq_some_iff.mp hu
    have en:some n=some ((n.toNat:Nat):Int):=by rw [Int.toNat_of_nonneg h0]
    by_cases hr:r=[]
    ·subst hr
     have e:p.1=t:=Option.some.inj h2
     refine ⟨[n.toNat],by rw [en]; rfl,fun z=>?_⟩
     rw [Gr.bareAt,ep]
     simp only [if_true]
     rw [e,if_pos z]
    ·obtain ⟨pl,e,h3⟩:=lk_bare (a:=p.1.1) (g:=p.1.2) hr h2
     refine ⟨n.toNat::pl,by rw [e,en]; rfl,fun z=>?_⟩
     have hp:pl ≠ []:=fun z=>hr (by rw [e,z]; rfl)
     rw [Gr.bareAt,ep]
     simp only [if_neg hp]
     exact h3 z
   ·rw [if_neg h0] at hu; cases hu
theorem Gr.bare_named {ns:List Str}:∀ {pl:Pl} {g:Gr} {k:Str},Gr.Named ns g->Gr.bareAt g pl=some k->k ∈ ns
 | [],_,_,_,h=>nomatch h
 | i::r,g,k,hn,h=>by
  by_cases hr:r=[]
  ·subst hr
   obtain ⟨p,e,e2⟩:=Gr.bare_one h
   have:=(Gr.named_iff.mp hn p (List.mem_of_getElem? e)).1
   rwa [e2] at this
  ·obtain ⟨p,e,h2⟩:=Gr.bare_more hr h
   exact bare_named (Gr.named_iff.mp hn p (List.mem_of_getElem? e)).2 h2
theorem Whs.ints {K:PySem.W.Frag} {H:Hp}:∀ {pl:Pl} {xs:List V},Whs K H xs (plO pl)->xs=pl.map fun n:Nat=>V.int (n:Int)
 | [],_,h=>by cases h; rfl
 | i::r,_,h=>by
  cases h with
  | cons h1 h2 =>
   rw [Whs.ints h2]
   rcases h1 with ⟨n,rfl,e⟩ | ⟨e,_⟩
   ·rw [<- Option.some.inj e]; rfl
   ·cases e
theorem Wh.int {K:PySem.W.Frag} {H:Hp} {v:V} {n:Int} (h:Wh K H v (some n)):v=.int n:=by
 rcases h with ⟨i,rfl,e⟩ | ⟨e,_⟩
 ·rw [Option.some.inj e]
 ·cases e
theorem zfa {kd:Kd} (h:∀ r ∈ kd.rs,RuOk r) {i:Nat} {r:Ru} (e:(noR::kd.rs)[i]?=some r):RuOk r:=by
 rcases List.mem_cons.mp (List.mem_of_getElem? e) with rfl | hm
 ·exact ⟨trivial,trivial,Nat.zero_le _⟩
 ·exact h r hm
theorem z7f:∀ {p q:Pl},plO p=plO q->p=q
 | [],[],_=>rfl
 | [],_::_,h=>nomatch h
 | _::_,[],h=>nomatch h
 | i::r,j::s,h=>by
  obtain ⟨h1,h2⟩:=List.cons.inj (show some (i:Int)::plO r=some (j:Int)::plO s from h)
  have:=Option.some.inj h1
  rw [z7f h2,show i=j by omega]
theorem zhn {d:PyData} (h:plS d=true):PyData.eqv d d=true:=by
 have h1:=z13 d
 exact z8z (z98 d h) h1 h1
/-- a grove and a place,as told of a fall -/
def gpE (x:Gr × Pl):PyData:=.tuple [x.1.enc,z0u x.2]
theorem zjf {K:PySem.W.Frag} {H:Hp} {t:Addr} {u p:V} {g:Gr} {pl:Pl} (h:SqT K H t [u,p]) (hu:GA K H u g) (hp:Dp K H p (z0u pl)):Dp K H (.ref t) (gpE (g,pl)):=.tup h (.cons hu (.cons hp .nil))
theorem Gr.wd_nil:Wd (.tuple []):=⟨by decide +kernel,by decide +kernel⟩
/-- a fall at a bare place,by a rule,so often -/
theorem z7k {K:PySem.W.Frag} {C NP NR NN TG:Addr} {H:Hp} {v w:V} {a:Addr} {b:Bk} {g:Gr} {D n:Int} {pl:Pl} {k:Str} {kd:Kd} {i:Nat} {r:Ru} {Q:VK} {E:XK} {vs:List V} (evs:vs=[v,w,.ref a,.int (i:Int),.int n]) (hv:BkA K C H v b) (ok:b.Ok) (hw:GA K H w g) (go:g.Ok D) (gd:g.deep<=60) (gp:g.parts<=2000) (gn:Gr.Named b.names g)
  (ha:SqT K H a (pl.map fun n:Nat=>V.int (n:Int))) (hb:Gr.bareAt g pl=some k) (eg:b.get k=some kd) (er:(noR::kd.rs)[i]?=some r) (n0:0<=n) (nb:n < 2 ^ 900)
  (q:z2d (Gr.stk b n (Gr.grw r n) pl g).1->∀ (t:Addr) (H':Hp),SB [] H H'->H t=none->Dp K H' (.ref t) (gpE (Gr.stk b n (Gr.grw r n) pl g))->Q (.ref t) H')
  (qE:¬ z2d (Gr.stk b n (Gr.grw r n) pl g).1->∀ H',SB [] H H'->E (.ref TG) none H'):z2k K C NP NR NN TG vs H Q E:=by
 subst evs
 refine ⟨v,w,.int i,.int n,a,b,g,D,_,plO pl,some (i:Int),some n,rfl,⟨hv,ok⟩,⟨hw,go,gd,gp,gn⟩,⟨ha,Whs.pl K H pl⟩,.inl ⟨_,rfl,rfl⟩,.inl ⟨n,rfl,rfl⟩,(fun m e=>by cases e; exact nb),fun h=>absurd hb (h pl k rfl),fun pl' k' kd' e1 hb' eg'=>?_⟩
 have e1:=z7f e1
 subst e1
 have e2:=hb.symm.trans hb'
 cases e2
 have e3:=eg.symm.trans eg'
 cases e3
 refine ⟨fun h=>absurd (h i rfl) (by rw [er]; simp),fun i' r' e4 er'=>?_⟩
 have e4:i'=i:=by have:=Option.some.inj e4; omega
 subst e4
 have e5:=er.symm.trans er'
 cases e5
 refine ⟨fun h=>absurd (h n rfl) (by omega),fun m em m0=>?_⟩
 have em:=Option.some.inj em
 subst em
 exact ⟨qE,fun hin t u p H' s nt ht hu hp=>q hin t H' s nt (zjf ht hu hp)⟩
/-- taken away one by one,if there is enough -/
def Gr.exc (g:Gr):List (Tr × Int)->Option Gr
 | []=>some g
 | p::r=>if Gr.S g p.1 < p.2 then none else Gr.exc (Gr.wo g p.1 p.2) r
namespace Gr
variable {C F:Int} {g:Gr} {b:Bk} {n:Int}
theorem exc_ok:∀ {ps:List (Tr × Int)} {g l:Gr},g.Ok C->(∀ p ∈ ps,0<=p.2)->exc g ps=some l->l.Ok C/\l.parts<=g.parts/\l.deep<=g.deep/\l.ps.length<=g.ps.length
 | [],g,l,ho,_,h=>by rw [<- Option.some.inj h]; exact ⟨ho,Nat.le_refl _,Nat.le_refl _,Nat.le_refl _⟩
 | p::r,g,l,ho,hp,h=>by
  rw [exc] at h
  split at h
  ·cases h
  ·have h0:=hp p (by simp)
   obtain ⟨a1,a2,a3,a4⟩:=exc_ok (wo_ok ho h0) (fun q hq=>hp q (by simp [hq])) h
   have:=wo_parts g p.1 p.2
   have:=wo_deep g p.1 p.2
   have:=wo_len g p.1 p.2
   exact ⟨a1,by omega,by omega,by omega⟩
end Gr
theorem Gr.bk_ne:∀ (g:Gr) (i:Nat),g ≠ .nil->g.bk i ≠ []
 | .nil,_,h=>absurd rfl h
 | .cons k g m r,i,_=>fun z=>by
  rw [bk] at z
  obtain ⟨h1,_⟩:=List.append_eq_nil_iff.mp z
  split at h1
  ·cases h1
  ·next hg=>exact bk_ne g 0 hg (List.map_eq_nil_iff.mp h1)
theorem z94 {K:PySem.W.Frag} {H:Hp} {v:V} {x:Gr × Pl} (h:Dp K H v (gpE x)):∃ t u a,v=.ref t/\SqT K H t [u,.ref a]/\GA K H u x.1/\SqT K H a (x.2.map fun n:Nat=>V.int (n:Int)):=by
 cases h with
 | @tup t us _ hs hda =>
 cases hda with
 | cons g1 hda =>
 cases hda with
 | cons g2 hda =>
 cases hda
 obtain ⟨pa,rfl,hpa⟩:=z2c g2
 exact ⟨t,_,pa,rfl,hs,g1,hpa⟩
theorem nilI {σ:L2.St} {H:Hp} {Q:List V->Hp->Prop} (h:Q [] H):tNil σ H Q:=h
inductive RowAll (K:PySem.W.Frag) (H:Hp):List (Key × V)->Bk->Prop
 | nil:RowAll K H [] []
 | cons {l:Addr} {zs:List V} {k:Kd} {kvs:List (Key × V)} {b:Bk}:H l=some (.lst zs)->Bears K H Ru.enc zs k.rs->RowAll K H kvs b->RowAll K H ((Sum.inr k.n,.ref l)::kvs) (k::b)
section
variable {K:PySem.W.Frag} {H H':Hp}
theorem RowAll.sb {ps:List Addr} (e:SB ps H H'):∀ {kvs:List (Key × V)} {b:Bk},RowAll K H kvs b->(∀ p ∈ kvs,∀ q ∈ ps,p.2 ≠ .ref q)->RowAll K H' kvs b
 | _,_,.nil,_=>.nil
 | _,_,.cons h1 h2 h3,n=>.cons (e.keep _ _ h1 fun z=>n _ (mcs ..) _ z rfl) (h2.sb e Ru.noList_enc) (RowAll.sb e h3 fun p hp=>n p (mcm _ hp))
theorem RowAll.append:∀ {kvs kws:List (Key × V)} {b c:Bk},RowAll K H kvs b->RowAll K H kws c->RowAll K H (kvs++kws) (b++c)
 | _,_,_,_,.nil,h=>h
 | _,_,_,_,.cons h1 h2 h3,h=>.cons h1 h2 (RowAll.append h3 h)
theorem RowAll.ne {q:Addr} (hq:H q=none):∀ {kvs:List (Key × V)} {b:Bk},RowAll K H kvs b->∀ p ∈ kvs,p.2 ≠ .ref q
 | _,_,.nil,_,hp=>nomatch hp
 | _,_,.cons h1 _ h3,p,hp=>by
  rcases List.mem_cons.mp hp with e | hp
  ·rw [e]; intro z; rw [V.ref.inj z] at h1; rw [hq] at h1; cases h1
  ·exact RowAll.ne hq h3 p hp
theorem RowAll.length:∀ {kvs:List (Key × V)} {b:Bk},RowAll K H kvs b->kvs.length=b.length
 | _,_,.nil=>rfl
 | _,_,.cons _ _ h=>by rw [List.length_cons,List.length_cons,RowAll.length h]
theorem RowAll.keys:∀ {kvs:List (Key × V)} {b:Bk},RowAll K H kvs b->kvs.map (·.1)=b.names.map Sum.inr
 | _,_,.nil=>rfl
 | _,_,.cons _ _ h=>by simp only [List.map_cons,RowAll.keys h]
theorem RowAll.val {n:Str} {k:Kd}:∀ {kvs:List (Key × V)} {b:Bk},RowAll K H kvs b->b.get n=some k->∃ l zs,valV kvs (Sum.inr n)=some (.ref l)/\H l=some (.lst zs)/\Bears K H Ru.enc zs k.rs
 | _,_,.nil,e=>nomatch e
 | _,_,.cons (l:=l) (zs:=zs) (k:=k') h1 h2 h3,e=>by
  unfold Bk.get at e
  rw [List.find?_cons] at e
  by_cases z:k'.n=n
  ·rw [decide_eq_true z] at e
   have e:=Option.some.inj e
   subst e
   exact ⟨l,zs,by rw [valV,List.find?_cons,decide_eq_true (by rw [z])]; rfl,h1,h2⟩
  ·rw [decide_eq_false z] at e
   obtain ⟨l',zs',a,b',c⟩:=RowAll.val h3 e
   exact ⟨l',zs',by rw [valV,List.find?_cons,decide_eq_false (fun y=>z (Sum.inr.inj y))]; exact a,b',c⟩
end
theorem Wlk.snoc {b:Bk} {n:Str} {p:List Sx} {s:Sx} {k:Str} (h:Wlk b n (p++[s]) k):∃ m kd,Wlk b n p m/\b.get m=some kd/\s ∈ kd.steps/\k=s.k:=by
 generalize e:p++[s]=l at h
 cases h with
 | nil=>exact absurd e (by simp)
 | step w eg hs =>
  obtain ⟨e1,e2⟩:=List.append_inj' e rfl
  have e2:=(List.cons.inj e2).1
  subst e1 e2
  exact ⟨_,_,w,eg,hs,rfl⟩
theorem Wlk.of_nil {b:Bk} {n k:Str} (h:Wlk b n [] k):k=n:=by
 generalize e:([]:List Sx)=l at h
 cases h with
 | nil=>rfl
 | step _ _ _=>exact absurd e (by simp)
theorem Wlk.det {b:Bk} {n:Str}:∀ {p:List Sx} {k j:Str},Wlk b n p k->Wlk b n p j->k=j:=by
 intro p k j h g
 rcases List.eq_nil_or_concat p with rfl | ⟨q,s,rfl⟩
 ·rw [h.of_nil,g.of_nil]
 ·rw [List.concat_eq_append] at h g
  obtain ⟨_,_,_,_,_,e1⟩:=h.snoc
  obtain ⟨_,_,_,_,_,e2⟩:=g.snoc
  rw [e1,e2]
theorem Wlk.at {b:Bk} {n:Str}:∀ {p:List Sx} {k:Str} {j:Nat} {s:Sx},Wlk b n p k->p[j]?=some s->∀ m,Wlk b n (p.take j) m->∃ kd,b.get m=some kd/\s ∈ kd.steps:=by
 intro p k j s h
 induction h with
 | nil=>intro e; exact nomatch e
 | @step p m' kd s' w eg hs ih =>
  intro e m wm
  by_cases hj:j < p.length
  ·rw [List.getElem?_append_left hj] at e
   rw [List.take_append_of_le_length (by omega)] at wm
   exact ih e m wm
  ·rw [List.getElem?_append_right (by omega)] at e
   have hj2:j=p.length:=by
    obtain ⟨h1,_⟩:=List.getElem?_eq_some_iff.mp e
    simp only [List.length_cons,List.length_nil] at h1
    omega
   subst hj2
   rw [List.take_left] at wm
   rw [Nat.sub_self] at e
   have e:=Option.some.inj e
   subst e
   have:=wm.det w
   subst this
   exact ⟨kd,eg,hs⟩
def z3l:Sp:=fun vs H Q _=>∃ i:Int,vs=[.int i]/\Q (.bl true) H
section
variable {γ:Type} [DecidableEq γ]
/-- a weighted sum -/
def wsum (f:γ->Int) (l:List (γ × Int)):Int:=match l with
 | []=>0
 | p::r=>f p.1*p.2+wsum f r
theorem z1g (f:γ->Int):∀ as bs:List (γ × Int),wsum f (as++bs)=wsum f as+wsum f bs
 | [],bs=>by simp [wsum]
 | p::r,bs=>by show _+wsum f (r++bs)=_; rw [z1g f r bs,wsum]; omega
theorem z2m (f:γ->Int) (t:γ):∀ l:List (γ × Int),wsum f l=f t*sumE l t+wsum f (l.filter fun p=>decide (p.1 ≠ t))
 | []=>by simp [wsum,sumE]
 | p::r=>by
  have ih:=z2m f t r
  by_cases e:p.1=t
  ·rw [List.filter_cons_of_neg (by simpa using e)]
   show f p.1*p.2+wsum f r=f t*((if p.1=t then p.2 else 0)+sumE r t)+_
   rw [if_pos e,Int.mul_add,e,ih]; omega
  ·rw [List.filter_cons_of_pos (by simpa using e)]
   show f p.1*p.2+wsum f r=f t*((if p.1=t then p.2 else 0)+sumE r t)+(f p.1*p.2+_)
   rw [if_neg e,Int.zero_add,ih]; omega
theorem z15 (t x:γ):∀ l:List (γ × Int),sumE (l.filter fun p=>decide (p.1 ≠ t)) x=if x=t then 0 else sumE l x
 | []=>by simp [sumE]
 | p::r=>by
  have ih:=z15 t x r
  by_cases e:p.1=t
  ·rw [List.filter_cons_of_neg (by simpa using e),ih]
   by_cases hx:x=t
   ·rw [if_pos hx,if_pos hx]
   ·rw [if_neg hx,if_neg hx,z04,if_neg (by rw [e]; exact fun z=>hx z.symm),Int.zero_add]
  ·rw [List.filter_cons_of_pos (by simpa using e),z04,ih]
   by_cases hx:x=t
   ·rw [if_pos hx,if_pos hx,if_neg (by rw [hx]; exact e)]; rfl
   ·rw [if_neg hx,if_neg hx,z04]
theorem z1q {p:γ × Int} {r:List (γ × Int)}:((p::r).filter fun q=>decide (q.1 ≠ p.1)).length<=r.length:=by
 rw [List.filter_cons_of_neg (by simp)]; exact List.length_filter_le _ _
theorem z1k (f:γ->Int):∀ (n:Nat) (as bs:List (γ × Int)),as.length+bs.length<=n->(∀ x,sumE as x=sumE bs x)->wsum f as=wsum f bs
 | n,[],[],_,_=>rfl
 | 0,p::r,bs,h,_=>by simp at h
 | 0,[],p::r,h,_=>by simp at h
 | n+1,p::r,bs,h,e=>by
  rw [z2m f p.1 (p::r),z2m f p.1 bs,e p.1,z1k f n ((p::r).filter fun q=>decide (q.1 ≠ p.1)) (bs.filter fun q=>decide (q.1 ≠ p.1)) ?_ fun x=>?_]
  ·have h1:=z1q (p:=p) (r:=r)
   have h2:=List.length_filter_le (fun q:γ × Int=>decide (q.1 ≠ p.1)) bs
   simp only [List.length_cons] at h
   omega
  ·rw [z15,z15,e]
 | n+1,[],p::r,h,e=>by
  rw [z2m f p.1 (p::r),z2m f p.1 [],<- e p.1,z1k f n (([]:List (γ × Int)).filter fun q=>decide (q.1 ≠ p.1)) ((p::r).filter fun q=>decide (q.1 ≠ p.1)) ?_ fun x=>?_]
  ·have h1:=z1q (p:=p) (r:=r)
   simp only [List.length_cons,List.length_nil,List.filter_nil] at h ⊢
   omega
  ·rw [z15,z15,e]
end
namespace Gr
theorem wsum_tms (f:Tr->Int) (m:Int):∀ l:List (Tr × Int),wsum f (tmsL m l)=wsum f l*m
 | []=>by show (0:Int)=0*m; rw [Int.zero_mul]
 | p::r=>by
  show f p.1*(p.2*m)+wsum f (tmsL m r)=(f p.1*p.2+wsum f r)*m
  rw [wsum_tms f m r,Int.add_mul,Int.mul_assoc]
theorem S_mem1 {C:Int} {g:Gr} (h:g.Ok C) {p:Tr × Int} (hp:p ∈ g.ps):1<=S g p.1:=by
 have h1:=ok_pos h p hp
 rw [S_mem h hp]; omega
end Gr
section
variable {K:PySem.W.Frag} {H H':Hp} {d:Addr} {f:Str->Int} {L:Nat}
def kvI (p:Str × Int):Key × V:=(Sum.inr p.1,.int p.2)
def DN (H:Hp) (d:Addr) (f:Str->Int) (L:Nat):Prop:=∃ l:List (Str × Int),H d=some (.dK (l.map kvI))/\(l.map (·.1)).Nodup/\l.length<=L/\∀ x,sumE l x=f x
def putI (l:List (Str × Int)) (k:Str) (v:Int):List (Str × Int):=if k ∈ l.map (·.1) then l.map (fun p=>if p.1=k then (p.1,v) else p) else l++[(k,v)]
theorem z40:∀ (l:List (Str × Int)) {k:Str},k ∉ l.map (·.1)->sumE l k=0
 | [],_,_=>rfl
 | p::r,k,h=>by
  rw [List.map_cons,List.mem_cons,not_or] at h
  rw [z04,if_neg fun z=>h.1 z.symm,z40 r h.2]; rfl
theorem valI:∀ (l:List (Str × Int)),(l.map (·.1)).Nodup->∀ k,(valV (l.map kvI) (Sum.inr k)).getD (.int 0)=.int (sumE l k)
 | [],_,_=>rfl
 | p::r,h,k=>by
  rw [List.map_cons,List.nodup_cons] at h
  rw [List.map_cons,z04]
  by_cases e:p.1=k
  ·rw [valV_pos (by rw [kvI,e]),if_pos e,z40 r (by rw [<- e]; exact h.1)]
   show V.int p.2=_
   rw [Int.add_zero]
  ·rw [valV_neg (by rw [kvI]; exact fun z=>e (Sum.inr.inj z)),if_neg e,Int.zero_add]
   exact valI r h.2 k
theorem zfr (l:List (Str × Int)) (k:Str) (v:Int):(putI l k v).map kvI=putK (l.map kvI) (Sum.inr k) (.int v):=by
 unfold putI putK
 have e:((l.map kvI).any fun kv=>decide (kv.1=Sum.inr k))=true ↔ k ∈ l.map (·.1):=by
  rw [List.any_eq_true]
  constructor
  ·rintro ⟨q,hq,e⟩
   obtain ⟨p,hp,rfl⟩:=List.mem_map.mp hq
   exact List.mem_map.mpr ⟨p,hp,Sum.inr.inj (of_decide_eq_true e)⟩
  ·intro h
   obtain ⟨p,hp,e⟩:=List.mem_map.mp h
   exact ⟨kvI p,List.mem_map.mpr ⟨p,hp,rfl⟩,decide_eq_true (by rw [kvI,e])⟩
 by_cases h:k ∈ l.map (·.1)
 ·rw [if_pos h,if_pos (e.mpr h),List.map_map,List.map_map]
  refine List.map_congr_left fun p _=>?_
  show kvI (if p.1=k then (p.1,v) else p)=if (kvI p).1=Sum.inr k then _ else _
  by_cases z:p.1=k
  ·rw [if_pos z,if_pos (by rw [kvI,z])]; rfl
  ·rw [if_neg z,if_neg (by rw [kvI]; exact fun y=>z (Sum.inr.inj y))]
 ·rw [if_neg h,if_neg fun z=>h (e.mp z),List.map_append]; rfl
theorem zbq (l:List (Str × Int)) (k:Str) (v:Int):(putI l k v).map (·.1)=if k ∈ l.map (·.1) then l.map (·.1) else l.map (·.1)++[k]:=by
 unfold putI
 by_cases h:k ∈ l.map (·.1)
 ·rw [if_pos h,if_pos h,List.map_map]
  refine List.map_congr_left fun p _=>?_
  show (if p.1=k then (p.1,v) else p).1=p.1
  split <;> rfl
 ·rw [if_neg h,if_neg h,List.map_append]; rfl
theorem zah {l:List (Str × Int)} (h:(l.map (·.1)).Nodup) (k:Str) (v:Int):((putI l k v).map (·.1)).Nodup:=by
 rw [zbq]
 split
 ·exact h
 ·rename_i z
  exact List.nodup_append.mpr ⟨h,by simp,fun a ha b hb=>by rw [List.mem_singleton.mp hb]; exact fun e=>z (e ▸ ha)⟩
theorem zd4 (l:List (Str × Int)) (k:Str) (v:Int):(putI l k v).length<=l.length+1:=by
 unfold putI; split <;> simp
theorem zd7 {l:List (Str × Int)} (h:(l.map (·.1)).Nodup) (k:Str) (v:Int) (x:Str):sumE (putI l k v) x=if x=k then v else sumE l x:=by
 unfold putI
 by_cases hk:k ∈ l.map (·.1)
 ·rw [if_pos hk]
  induction l with
  | nil=>cases hk
  | cons p r ih =>
   rw [List.map_cons,List.nodup_cons] at h
   rw [List.map_cons,z04,z04]
   by_cases e:p.1=k
   ·have hr:k ∉ r.map (·.1):=by rw [<- e]; exact h.1
    have er:(r.map fun p=>if p.1=k then (p.1,v) else p)=r:=by
     rw [List.map_congr_left (g:=id) fun q hq=>?_,List.map_id]
     rw [if_neg fun z=>hr (List.mem_map.mpr ⟨q,hq,z⟩)]; rfl
    rw [if_pos e,er]
    show (if p.1=x then v else 0)+_=_
    by_cases hx:x=k
    ·rw [if_pos hx,if_pos (by rw [e,hx]),hx,z40 r hr,Int.add_zero]
    ·rw [if_neg hx,if_neg (by rw [e]; exact fun z=>hx z.symm),if_neg (by rw [e]; exact fun z=>hx z.symm)]
   ·rw [if_neg e]
    have hkr:k ∈ r.map (·.1):=by
     rcases List.mem_cons.mp hk with z | z
     ·exact absurd z.symm e
     ·exact z
    rw [ih h.2 hkr]
    by_cases hx:x=k
    ·rw [if_pos hx,if_pos hx,if_neg (by rw [hx]; exact e),Int.zero_add]
    ·rw [if_neg hx,if_neg hx]
 ·rw [if_neg hk,z0f,z04]
  by_cases hx:x=k
  ·rw [if_pos hx,hx,z40 l hk,if_pos rfl,Int.zero_add]; exact Int.add_zero _
  ·rw [if_neg hx,if_neg fun z=>hx z.symm,Int.zero_add]; exact Int.add_zero _
theorem DN.get (h:DN H d f L) (k:Str):∃ o,DGet H d (.str k) o/\o.getD (.int 0)=.int (f k):=by
 obtain ⟨l,e,nd,_,s⟩:=h
 exact ⟨_,DGet.k (k:=Sum.inr k) e,by rw [valI l nd,s]⟩
theorem DN.put (h:DN H d f L) (hL:L < sizeLine) (k:Str) (v:Int):∃ H',DPut H d (.str k) (.int v) H'/\SB [d] H H'/\DN H' d (fun x=>if x=k then v else f x) (L+1):=by
 obtain ⟨l,e,nd,ll,s⟩:=h
 refine ⟨_,.inl ⟨_,Sum.inr k,e,rfl,by rw [List.length_map]; omega,rfl⟩,SB.setD e (by simp) _,putI l k v,?_,zah nd k v,?_,fun x=>?_⟩
 ·rw [upd_same,zfr]
 ·have:=zd4 l k v; omega
 ·rw [zd7 nd,s]
theorem DN.sb {ps:List Addr} (h:DN H d f L) (s:SB ps H H') (hd:d ∉ ps):DN H' d f L:=by
 obtain ⟨l,e,r⟩:=h
 exact ⟨l,s.keep _ _ e hd,r⟩
theorem DN.at (h:DN H d f L):∃ kvs,H d=some (.dK kvs):=by obtain ⟨l,e,_⟩:=h; exact ⟨_,e⟩
theorem DN.ext {g:Str->Int} {M:Nat} (h:DN H d f L) (e:∀ x,f x=g x) (hl:L<=M):DN H d g M:=by
 obtain ⟨l,a,b,c,s⟩:=h
 exact ⟨l,a,b,by omega,fun x=>by rw [s,e]⟩
theorem DN.new {ps:List Addr} (hd:H d=none):DN (upd H d (.dK [])) d (fun _=>0) 0:=⟨[],upd_same,by simp,Nat.le_refl _,fun _=>rfl⟩
end
theorem DN.upd {H:Hp} {d a:Addr} {f:Str->Int} {L:Nat} (h:DN H d f L) (n:d ≠ a) (o:HO):DN (upd H a o) d f L:=by
 obtain ⟨l,e,r⟩:=h
 exact ⟨l,by rw [upd_ne n]; exact e,r⟩
/-- no dict,or one that stands -/
def ExD (H:Hp) (d:Option Addr):Prop:=d=none\/∃ dd fs,d=some dd/\H dd=some (.xd fs)
theorem ExD.sb {H H':Hp} {d:Option Addr} (h:ExD H d) (s:SB [] H H'):ExD H' d:=by
 rcases h with h | ⟨dd,fs,h,g⟩
 ·exact .inl h
 ·exact .inr ⟨dd,fs,h,s.keep _ _ g nmn⟩
structure ErrsM (K:PySem.W.Frag) (mg:Str->Option Value) (c:Str->Addr) (caught names kinds:List Str):Prop where
 glo:∀ n ∈ names,mg n=some (.ref (c n))
 FellError:mg "FellError"=some (.ref (c "FellError"))
 ve:mg "ValueError"=none
 exc:∀ n ∈ caught,ExcC K (c n)
 exm:∀ n ∈ caught,PySem.W.exmOne K (.ref (c n)) (.ref (c "FellError"))=some true
 kve:∀ n ∈ caught,PySem.W.kitOne K (.ref (c n)) (.type "ValueError")=some true
 kit:∀ n ∈ caught,∀ m ∈ names,PySem.W.kitOne K (.ref (c n)) (.ref (c m))=some (decide (n=m))
 nok:∀ n ∈ kinds,PySem.W.findIn K (.ref (c n)) "kind"=some none
 exo:∀ n ∈ caught,∀ m ∈ names,PySem.W.exmOne K (.ref (c n)) (.ref (c m))=some (decide (n=m))
theorem ErrsM.any {K:PySem.W.Frag} {mg:Str->Option Value} {c:Str->Addr} {caught names kinds:List Str} (T:ErrsM K mg c caught names kinds) {n:Str} (hn:n ∈ caught):∀ {ms:List Str},(∀ m ∈ ms,m ∈ names)->PySem.W.kitAny K (.ref (c n)) (ms.map fun m=>.ref (c m))=some (decide (n ∈ ms))
 | [],_=>by simp [PySem.W.kitAny]
 | m::r,h=>by
  have e:=T.kit n hn m (h m mcs)
  have e2:=T.any hn (ms:=r) fun x hx=>h x (mcm _ hx)
  rw [List.map_cons,PySem.W.kitAny,e]
  by_cases z:n=m
  ·simp [z]
  ·simp [z,e2]
theorem ErrsM.no {K:PySem.W.Frag} {mg:Str->Option Value} {c:Str->Addr} {caught names kinds:List Str} (T:ErrsM K mg c caught names kinds) {n:Str} (hn:n ∈ caught) {ms:List Str} (h:∀ m ∈ ms,m ∈ names) (k:n ∉ ms):PySem.W.kitAny K (.ref (c n)) (ms.map fun m=>.ref (c m))=some false:=(T.any hn h).trans (by rw [decide_eq_false k])
theorem ErrsM.is {K:PySem.W.Frag} {mg:Str->Option Value} {c:Str->Addr} {caught names kinds:List Str} (T:ErrsM K mg c caught names kinds) {n:Str} (hn:n ∈ caught) (h:n ∈ names):PySem.W.kitOne K (.ref (c n)) (.ref (c n))=some true:=(T.kit n hn n h).trans (by rw [decide_eq_true rfl])
def ermB (K:PySem.W.Frag) (c:Str->Addr) (caught names:List Str):Bool:=caught.all fun n=>zam K (c n)&&(decide (PySem.W.exmOne K (.ref (c n)) (.ref (c "FellError"))=some true)&&(decide (PySem.W.kitOne K (.ref (c n)) (.type "ValueError")=some true)&&names.all fun m=>decide (PySem.W.kitOne K (.ref (c n)) (.ref (c m))=some (decide (n=m)))&&decide (PySem.W.exmOne K (.ref (c n)) (.ref (c m))=some (decide (n=m)))))
theorem zfx {K:PySem.W.Frag} {mg:Str->Option Value} {c:Str->Addr} {caught names kinds:List Str} (h:ermB K c caught names=true) (g:∀ n ∈ names,mg n=some (.ref (c n))) (f:mg "FellError"=some (.ref (c "FellError"))) (v:mg "ValueError"=none) (k:∀ n ∈ kinds,PySem.W.findIn K (.ref (c n)) "kind"=some none):ErrsM K mg c caught names kinds:=by
 have hh:∀ n ∈ caught,zam K (c n)=true/\PySem.W.exmOne K (.ref (c n)) (.ref (c "FellError"))=some true/\PySem.W.kitOne K (.ref (c n)) (.type "ValueError")=some true/\∀ m ∈ names,PySem.W.kitOne K (.ref (c n)) (.ref (c m))=some (decide (n=m))/\PySem.W.exmOne K (.ref (c n)) (.ref (c m))=some (decide (n=m)):=fun n hn=>by
  have:=List.all_eq_true.mp h n hn
  simp only [Bool.and_eq_true,decide_eq_true_eq,List.all_eq_true] at this
  exact this
 exact ⟨g,f,v,fun n hn=>zd9 (hh n hn).1,fun n hn=>(hh n hn).2.1,fun n hn=>(hh n hn).2.2.1,fun n hn m hm=>((hh n hn).2.2.2 m hm).1,k,fun n hn m hm=>((hh n hn).2.2.2 m hm).2⟩
abbrev Rw:=Pl × Tr × Int
def arE (x:Rw):PyData:=.tuple [z0u x.1,Gr.tEnc x.2.1,.int x.2.2]
instance:Orderly arE where
 al a b:=by simp [arE,alike,alikeAll,Orderly.al (enc:=z0u) a.1 b.1,Orderly.al (enc:=Gr.tEnc) a.2.1 b.2.1]
 eq a b:=by
  simp only [arE,PyData.eqv,PyData.eqvAll,Orderly.eq (enc:=z0u),Orderly.eq (enc:=Gr.tEnc),Bool.and_true,ib]
  by_cases h:a=b
  ·subst h; simp
  ·rw [decide_eq_false h]
   refine Bool.eq_false_iff.mpr fun z=>h ?_
   simp only [Bool.and_eq_true,decide_eq_true_eq] at z
   exact Prod.ext z.1 (Prod.ext z.2.1 z.2.2)
namespace Gr
def ar:Gr->Nat->Int->List Rw
 | .nil,_,_=>[]
 | .cons k g m r,i,f=>(([i],(k,g),f*m)::(g.ar 0 (f*m)).map fun x=>(i::x.1,x.2))++r.ar (i+1) f
theorem ar_at {G:Gr}:∀ (g:Gr) (i:Nat) (f:Int),G.ps.drop i=g.ps->∀ x ∈ g.ar i f,plO x.1 ≠ []/\lk ("",G) (plO x.1)=some x.2.1
 | .nil,_,_,_,x,h=>by cases h
 | .cons k g m r,i,f,hd,x,h=>by
  have hd':G.ps.drop i=((k,g),m)::r.ps:=hd
  have hi:G.ps[i]?=some ((k,g),m):=by
   have:=congrArg (·[0]?) hd'
   simpa using this
  have hs:stp G (some ((i:Nat):Int))=some (k,g):=by
   show (if (0:Int)<=((i:Nat):Int) then (G.ps[((i:Nat):Int).toNat]?).map (·.1) else none)=_
   rw [if_pos (by omega),Int.toNat_natCast,hi]; rfl
  rcases List.mem_append.mp h with h | h
  ·rcases List.mem_cons.mp h with h | h
   ·rw [h]
    refine ⟨by simp [plO],?_⟩
    show (stp G (some ((i:Nat):Int))).bind _=_
    rw [hs]; rfl
   ·obtain ⟨q,hq,rfl⟩:=List.mem_map.mp h
    obtain ⟨n1,e1⟩:=ar_at (G:=g) g 0 _ rfl q hq
    refine ⟨by simp [plO],?_⟩
    show (stp G (some ((i:Nat):Int))).bind (fun u=>lk u (plO q.1))=_
    rw [hs]
    show lk (k,g) (plO q.1)=some q.2.1
    rw [lk_root (b:="") n1,e1]
  ·exact ar_at r (i+1) f (by rw [<- List.drop_drop,hd']; rfl) x h
variable {C:Int}
theorem ar_bare:∀ (g:Gr) (i:Nat) (f:Int),((g.ar i f).filter fun x=>decide (x.2.1.2=.nil)).map (·.1)=g.bp i
 | .nil,_,_=>rfl
 | .cons k g m r,i,f=>by
  show (((([i],(k,g),f*m)::(g.ar 0 (f*m)).map fun x=>(i::x.1,x.2))++r.ar (i+1) f).filter _).map _=(if g=.nil then [[i]] else (g.bp 0).map (i::·))++r.bp (i+1)
  rw [List.filter_append,List.map_append,ar_bare r]
  congr 1
  by_cases hg:g=.nil
  ·subst hg
   rw [if_pos rfl]; rfl
  ·rw [if_neg hg,List.filter_cons,if_neg (by simpa using hg),<- ar_bare g 0 (f*m),List.filter_map,List.map_map,List.map_map]
   rfl
theorem size_wsum:∀ g:Gr,g.size=wsum (fun t=>1+t.2.size) g.ps
 | .nil=>rfl
 | .cons k g m r=>by
  show m*(1+g.size)+r.size=(1+g.size)*m+wsum _ r.ps
  rw [size_wsum r,Int.mul_comm]
theorem size_pos:∀ {g:Gr},g.Ok C->0<=g.size
 | .nil,_=>Int.le_refl _
 | .cons k g m r,h=>by
  obtain ⟨_,h2,h3,_,h5,_⟩:=h
  have e1:=size_pos h2
  have e2:=size_pos h5
  have e3:0<=m*(1+g.size):=Int.mul_nonneg (by omega) (by omega)
  show 0<=m*(1+g.size)+r.size
  omega
theorem size_pos1 {g:Gr} (h:g.Ok C) (hn:g ≠ .nil):1<=g.size:=by
 cases g with
 | nil=>exact absurd rfl hn
 | cons k g m r =>
  obtain ⟨_,h2,h3,_,h5,_⟩:=h
  have e1:=size_pos h2
  have e2:=size_pos h5
  have e3:1*1<=m*(1+g.size):=Int.mul_le_mul h3 (by omega) (by decide) (by omega)
  show 1<=m*(1+g.size)+r.size
  omega
end Gr
namespace Lad
def maxL (x:Lad) (xs:List Lad):Lad:=xs.foldl (fun a y=>if a.lt y=true then y else a) x
theorem maxL_mem:∀ (xs:List Lad) (x:Lad),maxL x xs ∈ x::xs
 | [],x=>mcs ..
 | y::r,x=>by
  show maxL (if x.lt y=true then y else x) r ∈ _
  by_cases h:x.lt y=true
  ·rw [if_pos h]; exact mcm _ (maxL_mem r y)
  ·rw [if_neg h]
   rcases List.mem_cons.mp (maxL_mem r x) with e | e
   ·rw [e]; exact mcs ..
   ·exact mcm _ (mcm _ e)
theorem maxL_ge:∀ (xs:List Lad) (x:Lad),∀ y ∈ x::xs,(maxL x xs).lt y=false
 | [],x,y,hy=>by rw [List.mem_singleton.mp hy]; exact lt_irrefl _
 | z::r,x,y,hy=>by
  show (maxL (if x.lt z=true then z else x) r).lt y=false
  by_cases h:x.lt z=true
  ·rw [if_pos h]
   have g:=maxL_ge r z
   rcases List.mem_cons.mp hy with rfl | hy
   ·cases e:(maxL z r).lt y with
    | false=>rfl
    | true =>
     have:=lt_trans _ _ _ e h
     rw [g z (mcs ..)] at this; cases this
   ·exact g y hy
  ·rw [if_neg h]
   have g:=maxL_ge r x
   rcases List.mem_cons.mp hy with rfl | hy
   ·exact g _ (mcs ..)
   rcases List.mem_cons.mp hy with rfl | hy
   ·cases e:(maxL x r).lt y with
    | false=>rfl
    | true =>
     have h:=eq_false_of_ne_true h
     have gx:=g x (mcs ..)
     by_cases e1:x=y
     ·subst e1; rw [gx] at e; cases e
     ·have:=lt_trans _ _ _ e (lt_tri x y e1 h)
      rw [gx] at this; cases this
   ·exact g y (mcm _ hy)
end Lad
/-- the ladder of a tree,by that of its kind,its width and that of what it holds -/
def lad (w:Bool) (o l:Lad):Lad:=if w=true then Lad.spd o l else Lad.bhd o l
def Bk.wide (b:Bk) (n:Str):Bool:=match b.get n with
 | some k=>k.w
 | none=>false
theorem Bk.wide_get {b:Bk} {n:Str} {k:Kd} (h:b.get n=some k):b.wide n=k.w:=by unfold Bk.wide; rw [h]
namespace Gr
def rkT (b:Bk) (ρ:Str->Lad):Gr->List Lad
 | .nil=>[]
 | .cons k g m r=>Lad.tms (lad (b.wide k) (ρ k) (Lad.bths (rkT b ρ g))) m::rkT b ρ r
def rk (b:Bk) (ρ:Str->Lad) (g:Gr):Lad:=Lad.bths (rkT b ρ g)
def rkt (b:Bk) (ρ:Str->Lad) (t:Tr):Lad:=lad (b.wide t.1) (ρ t.1) (rk b ρ t.2)
variable {b:Bk} {ρ:Str->Lad} {C:Int}
theorem rkT_ps:∀ g:Gr,rkT b ρ g=g.ps.map fun p=>Lad.tms (rkt b ρ p.1) p.2
 | .nil=>rfl
 | .cons k g m r=>by
  show _::rkT b ρ r=_::r.ps.map _
  rw [rkT_ps r]; rfl
theorem rk_ps (g:Gr):rk b ρ g=Lad.bths (g.ps.map fun p=>Lad.tms (rkt b ρ p.1) p.2):=by unfold rk; rw [rkT_ps]
theorem S_bths (ls:List Lad) (x:Lad):Lad.S (Lad.bths ls) x=(ls.map fun l=>Lad.S l x).sum:=by
 have e:Lad.S (Lad.bths ls) x=Lad.sumAt (ls.flatMap Lad.ps) x:=by
  unfold Lad.bths Lad.S
  rw [Lad.ps_ofPs,Lad.sumAt_jn,Lad.sumAt_perm (Lad.dsc_perm _)]
 rw [e]
 clear e
 induction ls with
 | nil=>rfl
 | cons l r ih=>rw [List.flatMap_cons,Lad.sumAt_append,ih]; rfl
theorem S_rk (g:Gr) (x:Lad):Lad.S (rk b ρ g) x=wsum (fun t=>Lad.S (rkt b ρ t) x) g.ps:=by
 rw [rk_ps,S_bths]
 induction g.ps with
 | nil=>rfl
 | cons p r ih =>
  rw [List.map_cons,List.map_cons,List.sum_cons,ih,Lad.S_tms]
  rfl
end Gr
/-- what all those can do with -/
structure LFit (l:Lad):Prop where
 deep:l.deep<=25
 parts:l.parts<=900
 num:∀ p ∈ l.ps,0<=p.2/\p.2 < 2 ^ 2000
/-- the ladders of a grove stay within what all those can do with -/
def Gr.Fit (b:Bk) (ρ:Str->Lad) (ns:List Str):Gr->Prop
 | .nil=>True
 | .cons k g m r=>(k ∈ ns/\k ∈ b.names/\ρ k ≠ .nil/\LFit (ρ k)/\LFit (Gr.rk b ρ g)/\LFit (Gr.rkt b ρ (k,g))/\0<=m/\m < 2 ^ 2000/\((Gr.rkT b ρ (.cons k g m r)).flatMap Lad.ps).length<=900)/\Gr.Fit b ρ ns g/\Gr.Fit b ρ ns r
/-- at d stands a dict: for each of ns,in their order,its ladder -/
def RkD (K:PySem.W.Frag) (H:Hp) (d:Addr) (ρ:Str->Lad) (ns:List Str):Prop:=∃ us:List V,H d=some (.dK (List.zipWith (fun (n:Str) (u:V)=>((Sum.inr n:Key),u)) ns us))/\Bears K H Lad.enc us (ns.map ρ)
theorem za8 {K:PySem.W.Frag} {H:Hp} {ρ:Str->Lad} {n:Str}:∀ {ns:List Str} {us:List V},Bears K H Lad.enc us (ns.map ρ)->n ∈ ns->∃ u,valV (List.zipWith (fun (n:Str) (u:V)=>((Sum.inr n:Key),u)) ns us) (Sum.inr n)=some u/\LA K H u (ρ n)
 | [],_,_,hn=>nomatch hn
 | m::r,us,h,hn=>by
  cases h with
  | @cons u us' _ _ h1 h2 =>
  by_cases e:m=n
  ·subst e
   exact ⟨u,by simp [valV],h1⟩
  ·obtain ⟨v,h3,h4⟩:=za8 h2 (by rcases List.mem_cons.mp hn with z | z; exact absurd z.symm e; exact z)
   refine ⟨v,?_,h4⟩
   rw [List.zipWith_cons_cons]
   unfold valV
   rw [List.find?_cons_of_neg (by simp only [decide_eq_true_eq]; exact fun z=>e (Sum.inr.inj z))]
   exact h3
theorem RkD.val {K:PySem.W.Frag} {H:Hp} {d:Addr} {ρ:Str->Lad} {ns:List Str} {n:Str} (h:RkD K H d ρ ns) (hn:n ∈ ns):∃ u,DGet H d (.str n) (some u)/\LA K H u (ρ n):=by
 obtain ⟨us,h1,h2⟩:=h
 obtain ⟨u,h3,h4⟩:=za8 h2 hn
 exact ⟨u,getK h1 h3,h4⟩
theorem RkD.sb {K:PySem.W.Frag} {H H':Hp} {d:Addr} {ρ:Str->Lad} {ns:List Str} {ps:List Addr} (h:RkD K H d ρ ns) (s:SB ps H H') (hd:d ∉ ps):RkD K H' d ρ ns:=by
 obtain ⟨us,h1,h2⟩:=h
 exact ⟨us,s.keep _ _ h1 hd,h2.sb s Lad.noList_enc⟩
theorem RkD.sb0 {K:PySem.W.Frag} {H H':Hp} {d:Addr} {ρ:Str->Lad} {ns:List Str} (h:RkD K H d ρ ns) (s:SB [] H H'):RkD K H' d ρ ns:=h.sb s nmn
/-- the ladder of a rule -/
def clm (b:Bk) (ρ:Str->Lad) (r:Ru):Lad:=Lad.abv (Gr.rk b ρ r.1) (Gr.rk b ρ r.2)
def RFit (b:Bk) (ρ:Str->Lad) (ns:List Str) (r:Ru):Prop:=Gr.Fit b ρ ns r.1/\Gr.Fit b ρ ns r.2/\(Gr.rk b ρ r.1).deep<=24/\(Gr.rk b ρ r.2).deep<=24/\(Gr.rk b ρ r.1).parts<=390/\(Gr.rk b ρ r.2).parts<=390
theorem z8d (b:Bk) (ρ:Str->Lad):clm b ρ (.nil,.nil)=Lad.uno:=by
 show Lad.abv (Gr.rk b ρ .nil) (Gr.rk b ρ .nil)=Lad.uno
 have e:Gr.rk b ρ .nil=.nil:=by
  show Lad.ofPs (jn (Lad.dsc []))=.nil
  have:Lad.dsc []=[]:=List.Perm.eq_nil (Lad.dsc_perm [])
  rw [this]; rfl
 rw [e]
 show Lad.bth .nil Lad.uno=Lad.uno
 rw [Lad.bth_comm]
 exact Lad.bth_nil Lad.uno_ok
theorem zfj (b:Bk) (ρ:Str->Lad) (ns:List Str):RFit b ρ ns (.nil,.nil):=by
 have e:Gr.rk b ρ .nil=.nil:=by
  show Lad.ofPs (jn (Lad.dsc []))=.nil
  have:Lad.dsc []=[]:=List.Perm.eq_nil (Lad.dsc_perm [])
  rw [this]; rfl
 exact ⟨trivial,trivial,by show (Gr.rk b ρ .nil).deep<=24; rw [e]; decide,by show (Gr.rk b ρ .nil).deep<=24; rw [e]; decide,by show (Gr.rk b ρ .nil).parts<=390; rw [e]; decide,by show (Gr.rk b ρ .nil).parts<=390; rw [e]; decide⟩
/-- ρ tells the own rank of each kind that is not endless -/
structure OwnR (b:Bk) (ρ:Str->Lad):Prop where
 own:∀ k ∈ b,EndK b k.n->ρ k.n=Lad.maxL Lad.uno (k.rs.map (clm b ρ))
 fit:∀ k ∈ b,EndK b k.n->∀ ns,(∀ n,n ∈ adj b k.n->n ∈ ns)->∀ r ∈ k.rs,RFit b ρ ns r
 deep:∀ k ∈ b,EndK b k.n->∀ r ∈ k.rs,(clm b ρ r).deep<=45
namespace Gr
variable {b:Bk} {ρ:Str->Lad} {ns:List Str}
theorem Fit.at:∀ {g:Gr},Fit b ρ ns g->∀ p ∈ g.ps,(p.1.1 ∈ ns/\p.1.1 ∈ b.names/\ρ p.1.1 ≠ .nil/\LFit (ρ p.1.1)/\LFit (rk b ρ p.1.2)/\LFit (rkt b ρ p.1)/\0<=p.2/\p.2 < 2 ^ 2000)/\Fit b ρ ns p.1.2
 | .nil,_,p,hp=>nomatch hp
 | .cons k g m r,h,p,hp=>by
  obtain ⟨⟨h1,h2,h3,h4,h5,h6,h7,h8,_⟩,hg,hr⟩:=h
  rcases List.mem_cons.mp hp with rfl | hp
  ·exact ⟨⟨h1,h2,h3,h4,h5,h6,h7,h8⟩,hg⟩
  ·exact Fit.at hr p hp
theorem Fit.len:∀ {g:Gr},Fit b ρ ns g->((rkT b ρ g).flatMap Lad.ps).length<=900
 | .nil,_=>by simp [rkT]
 | .cons k g m r,h=>h.1.2.2.2.2.2.2.2.2
end Gr
theorem Bears.len {K:PySem.W.Frag} {H:Hp} {β:Type} {enc:β->PyData} {us:List V} {bs:List β} (h:Bears K H enc us bs):us.length=bs.length:=h.length
theorem RkD.put {K:PySem.W.Frag} {H:Hp} {d:Addr} {ρ:Str->Lad} {ns:List Str} {n:Str} {x:V} (h:RkD K H d ρ ns) (hn:n ∉ ns) (hl:ns.length<=1000) (hx:LA K H x (ρ n)):∃ H',DPut H d (.str n) x H'/\SB [d] H H'/\RkD K H' d ρ (ns++[n]):=by
 obtain ⟨us,h1,h2⟩:=h
 have szl:=sizeLine_eq
 have ul:us.length=ns.length:=by rw [h2.length,List.length_map]
 have t:=SB.setD (ps:=[d]) h1 (by simp) (.dK (putK (List.zipWith (fun (n:Str) (u:V)=>((Sum.inr n:Key),u)) ns us) (Sum.inr n) x))
 have e:putK (List.zipWith (fun (n:Str) (u:V)=>((Sum.inr n:Key),u)) ns us) (Sum.inr n) x=List.zipWith (fun (n:Str) (u:V)=>((Sum.inr n:Key),u)) (ns++[n]) (us++[x]):=by
  rw [z1j fun p hp z=>?_,List.zipWith_append (by omega)]
  ·rfl
  ·clear t h1 h2 ul
   induction ns generalizing us with
   | nil=>cases hp
   | cons m r ih =>
    cases us with
    | nil=>cases hp
    | cons u us =>
     rw [List.zipWith_cons_cons] at hp
     rcases List.mem_cons.mp hp with rfl | hp
     ·exact hn (List.mem_cons.mpr (.inl (Sum.inr.inj z).symm))
     ·exact ih (fun h=>hn (mcm _ h)) (by simp at hl; omega) us hp
 refine ⟨_,DPut.k (k:=Sum.inr n) h1 (by rw [List.length_zipWith]; omega),t,us++[x],?_,?_⟩
 ·rw [upd_same,e]
 ·rw [List.map_append]
  exact (h2.sb t Lad.noList_enc).append (.cons (LA.sb hx t) .nil)
namespace Lad
theorem deep_le' {n:Nat}:∀ {l:Lad},(∀ p ∈ l.ps,p.1.deep < n)->l.deep<=n
 | .nil,_=>Nat.zero_le _
 | .cons e m r,h=>by
  have h1:=h (e,m) (mcs ..)
  have h2:=deep_le' (l:=r) fun p hp=>h p (mcm _ hp)
  have h1:e.deep < n:=h1
  show max (1+e.deep) r.deep<=n
  omega
end Lad
theorem Pu.keep {H H':Hp} {p:Addr} {ps:List Addr} (h:Pu H p) (e:SB ps H H') (n:p ∉ ps):Pu H' p:=by
 obtain ⟨x,y,h1,h2⟩:=h
 exact ⟨x,y,e.keep _ _ h1 n,h2⟩
theorem Pu.some {H:Hp} {p:Addr} (h:Pu H p):∀ q ∈ [p],H q ≠ none:=fun q hq z=>by
 obtain ⟨x,y,h1,_⟩:=h
 rw [List.mem_singleton.mp hq,h1] at z
 cases z
theorem z70 {K:PySem.W.Frag} {H:Hp}:∀ ks:List Str,Bears K H PyData.str (ks.map V.str) ks
 | []=>.nil
 | k::r=>.cons (.str k) (z70 r)
theorem zgw {n:Str} {m:Int} {C:Int} (hn:z01 n) (hm:1<=m) (hC:m < C):(Gr.cons n .nil m .nil).Ok C:=⟨hn,trivial,hm,hC,trivial,by simp [Gr.ps]⟩
theorem z8l (c:Nat):∀ (n:Nat) (b:Array Nat),((List.replicate n (#[c]:Array Nat)).foldl (·++·) b).toList=b.toList++List.replicate n c
 | 0,b=>by simp
 | n+1,b=>by
  rw [List.replicate_succ,List.foldl_cons,z8l c n]
  simp [List.replicate_succ]
theorem mul_one (c n:Nat):(Txt.mul ⟨#[c]⟩ (n:Int)).cps.toList=List.replicate n c:=by
 unfold Txt.mul
 by_cases h1:(n:Int) < 1
 ·rw [if_pos h1]
  have:n=0:=by omega
  subst this; rfl
 ·rw [if_neg h1]
  by_cases h2:((n:Int) == 1 || (⟨#[c]⟩:Str).length == 0)=true
  ·rw [if_pos h2]
   have:n=1:=by
    have e:((⟨#[c]⟩:Str).length == 0)=false:=rfl
    rw [e,Bool.or_false] at h2
    have:=beq_iff_eq.mp h2
    omega
   subst this; rfl
  ·rw [if_neg h2,Int.toNat_natCast]
   exact (z8l c n #[]).trans (by simp)
theorem Ltr.mul {c:Nat} (n:Nat) (h:97<=c/\c<=122):Ltr (Txt.mul ⟨#[c]⟩ (n:Int)) n:=by
 refine ⟨?_,fun x hx=>?_⟩
 ·rw [mul_one]; simp
 ·rw [mul_one] at hx
  rw [List.eq_of_mem_replicate hx]; exact h
def Dr (H:Hp) (p:Addr):Prop:=∃ ns:List Int,H p=some (.lst (ns.map V.int))/\(∀ x ∈ ns,0<=x/\x < 2147483629)/\ns.length<=1000
theorem Dr.keep {H H':Hp} {p:Addr} {ps:List Addr} (h:Dr H p) (e:SB ps H H') (n:p ∉ ps):Dr H' p:=by
 obtain ⟨ns,h1,h2⟩:=h
 exact ⟨ns,e.keep _ _ h1 n,h2⟩
theorem Dr.sb {H H':Hp} {p:Addr} (h:Dr H p) (e:SB [] H H'):Dr H' p:=h.keep e nmn
theorem Dr.ne {H:Hp} {p q:Addr} (h:Dr H p) (n:H q=none):p ≠ q:=by
 obtain ⟨ns,h1,h2⟩:=h
 exact ne_of_none h1 n
theorem Dr.some {H:Hp} {p:Addr} (h:Dr H p):∀ q ∈ [p],H q ≠ none:=fun q hq z=>by
 obtain ⟨ns,h1,_⟩:=h
 rw [List.mem_singleton.mp hq,h1] at z
 cases z
/-- the kinds of a drawn book: few trees in a rule,and unless roundabout by earlier names only -/
structure Kinds40 (ks:List Str) (rounds:Bool) (b:Bk):Prop where
 names:b.names.Perm ks
 nums:∀ k ∈ b,∀ r ∈ k.rs,r.1.Ok (3*10 ^ 8+1)/\r.2.Ok (3*10 ^ 8+1)
 size:∀ k ∈ b,∀ r ∈ k.rs,r.1.parts+r.2.parts<=if ks.length > 3 then 2 else 3
 rules:∀ k ∈ b,k.rs.length<=4
 early:rounds=false->∀ k ∈ b,∀ i,ks[i]?=some k.n->∀ r ∈ k.rs,Gr.Named (ks.take i) r.1/\Gr.Named (ks.take i) r.2
 known:∀ k ∈ b,∀ r ∈ k.rs,Gr.Named ks r.1/\Gr.Named ks r.2
theorem RkD.none {K:PySem.W.Frag} {H:Hp} {d:Addr} {ρ:Str->Lad} {ns:List Str} {n:Str} (h:RkD K H d ρ ns) (hn:n ∉ ns):DGet H d (.str n) none:=by
 obtain ⟨us,h1,h2⟩:=h
 refine .inl ⟨_,Sum.inr n,.inl h1,rfl,?_⟩
 unfold valV
 have:List.find? (fun kv:Key × V=>decide (kv.1=Sum.inr n)) (List.zipWith (fun (n:Str) (u:V)=>((Sum.inr n:Key),u)) ns us)=Option.none:=by
  refine List.find?_eq_none.mpr fun x hx=>?_
  have key:∀ (ns:List Str) (us:List V),x ∈ List.zipWith (fun (n:Str) (u:V)=>((Sum.inr n:Key),u)) ns us->∃ m ∈ ns,x.1=Sum.inr m:=by
   intro ns
   induction ns with
   | nil=>intro us h; cases h
   | cons m r ih =>
    intro us h
    cases us with
    | nil=>cases h
    | cons u us =>
     rw [List.zipWith_cons_cons] at h
     rcases List.mem_cons.mp h with rfl | h
     ·exact ⟨m,mcs ..,rfl⟩
     ·obtain ⟨m',h1,h2⟩:=ih us h
      exact ⟨m',mcm _ h1,h2⟩
  obtain ⟨m,hm,e⟩:=key ns us hx
  rw [e]
  simp only [decide_eq_true_eq]
  exact fun z=>hn (by rw [<- Sum.inr.inj z]; exact hm)
 rw [this]; rfl
theorem KdAll.cut {K:PySem.W.Frag} {H:Hp} {bad:List Addr}:∀ (n:Nat) {vs:List V} {b:Bk},KdAll K H bad vs b->KdAll K H bad (vs.take n) (b.take n)/\KdAll K H bad (vs.drop n) (b.drop n)
 | 0,_,_,h=>⟨.nil,h⟩
 | n+1,_,_,.nil=>⟨.nil,.nil⟩
 | n+1,_,_,.cons a t=>⟨.cons a (KdAll.cut n t).1,(KdAll.cut n t).2⟩
theorem nodup_at {ks:List Str} (nd:ks.Nodup) {i j:Nat} {n:Str} (hi:ks[i]?=some n) (hj:ks[j]?=some n):i=j:=by
 obtain ⟨h1,e1⟩:=List.getElem?_eq_some_iff.mp hi
 obtain ⟨h2,e2⟩:=List.getElem?_eq_some_iff.mp hj
 rcases Nat.lt_trichotomy i j with h | h | h
 ·exact absurd (e1.trans e2.symm) (List.pairwise_iff_getElem.mp nd i j h1 h2 h)
 ·exact h
 ·exact absurd (e2.trans e1.symm) (List.pairwise_iff_getElem.mp nd j i h2 h1 h)
theorem KdAll.more {K:PySem.W.Frag} {H:Hp} {bad:List Addr} {R:Addr} (hR:H R=none):∀ {vs:List V} {b:Bk},KdAll K H bad vs b->KdAll K H (R::bad) vs b
 | _,_,.nil=>.nil
 | _,_,.cons a t=>by
  obtain ⟨t1,l,zs,e,h1,h2,h3,h4⟩:=a
  refine .cons ⟨t1,l,zs,e,h1,h2,h3,fun z=>?_⟩ (KdAll.more hR t)
  rcases List.mem_cons.mp z with z | z
  ·rw [z,hR] at h2; cases h2
  ·exact h4 z
theorem z0b (n:Nat):(1:Int)<=2 ^ n:=by
 have:(0:Int) < 2 ^ n:=Int.pow_pos (by decide)
 omega
theorem z0j {a b:Nat} (h:a<=b):(2:Int) ^ a<=2 ^ b:=by
 obtain ⟨k,rfl⟩:=Nat.le.dest h
 rw [Int.pow_add]
 have h1:=z0b a
 have h2:=z0b k
 have:=Int.mul_le_mul_of_nonneg_left h2 (show (0:Int)<=2 ^ a by omega)
 omega
theorem z19 (a:Nat):(2:Int) ^ (a+1)=2*2 ^ a:=by rw [Int.pow_succ]; omega
namespace Lad
theorem lad_ok {B C:Int} {w:Bool} {o l:Lad} (ho:o.Ok B) (hl:l.Ok C) (hB:1<=B) (hC:1<=C):(lad w o l).Ok (B+C):=by
 unfold lad
 cases w with
 | false=>exact bhd_ok ho hl hB hC
 | true =>
  rw [if_pos rfl]
  cases o with
  | nil =>
   cases l with
   | nil=>trivial
   | cons e m r=>exact hl.mono (by omega)
  | cons e m r =>
   cases l with
   | nil=>exact ho.mono (by omega)
   | cons e2 m2 r2 =>
    show (Lad.cons (bhd e (.cons e2 m2 r2)) 1 .nil).Ok _
    exact ⟨bhd_ok ho.1 hl hB hC,by decide,by omega,trivial,by simp [ps]⟩
theorem lad_parts (w:Bool) (o l:Lad):(lad w o l).parts<=o.parts+l.parts:=by
 unfold lad
 cases w with
 | false=>exact bhd_parts o l
 | true =>
  rw [if_pos rfl]
  cases o with
  | nil=>cases l <;> simp [spd,parts]
  | cons e m r =>
   cases l with
   | nil=>show (Lad.cons e m r).parts<=_; omega
   | cons e2 m2 r2 =>
    have:=bhd_parts e (.cons e2 m2 r2)
    show 1+(bhd e (.cons e2 m2 r2)).parts+0<=1+e.parts+r.parts+_
    omega
theorem lad_deep {w:Bool} {o l:Lad} {n:Nat} (ho:o.deep<=n) (hl:l.deep<=n):(lad w o l).deep<=n+1:=by
 unfold lad
 cases w with
 | false=>exact Nat.le_succ_of_le (bhd_deep ho hl)
 | true =>
  rw [if_pos rfl]
  cases o with
  | nil=>cases l with
   | nil=>exact Nat.zero_le _
   | cons e m r=>exact Nat.le_succ_of_le hl
  | cons e m r =>
   cases l with
   | nil=>exact Nat.le_succ_of_le ho
   | cons e2 m2 r2 =>
    have he:e.deep<=n:=by
     have:max (1+e.deep) r.deep<=n:=ho
     omega
    have:=bhd_deep he hl
    show max (1+(bhd e (.cons e2 m2 r2)).deep) 0<=n+1
    omega
/-- all of some ladders together is a right one -/
theorem bths_ok {ls:List Lad} {B D:Int} (h:∀ l ∈ ls,l.Ok B) (hB:0<=B) (hD:B<=D) (hs:∀ x,(ls.map fun l=>S l x).sum < D):(bths ls).Ok D:=by
 have hd:(jn (dsc (ls.flatMap ps))).Pairwise (fun p q=>q.1.lt p.1=true):=jn_desc (dsc_keys _)
 show (ofPs (jn (dsc (ls.flatMap ps)))).Ok D
 rw [ok_ps]
 refine ⟨fun p hp=>?_,hd⟩
 have hnd:∀ (bs:List (Lad × Int)),bs.Pairwise (fun p q=>q.1.lt p.1=true)->∀ p ∈ bs,sumAt bs p.1=p.2:=by
  intro bs
  induction bs with
  | nil=>intro _ p hp; cases hp
  | cons q r ih =>
   intro hpw p hp
   obtain ⟨e,m⟩:=q
   obtain ⟨h1,h2⟩:=List.pairwise_cons.mp hpw
   rw [sumAt_cons]
   rcases List.mem_cons.mp hp with hp | hp
   ·subst hp
    rw [if_pos rfl,sumAt_zero fun q hq=>lt_ne (h1 q hq)]
    omega
   ·rw [if_neg (fun z=>lt_ne (h1 p hp) z.symm),ih h2 p hp]
    omega
 have e1:sumAt (jn (dsc (ls.flatMap ps))) p.1=p.2:=hnd _ hd p hp
 have e2:p.2=(ls.map fun l=>S l p.1).sum:=by
  rw [<- e1,<- Gr.S_bths]
  show _=sumAt (bths ls).ps p.1
  unfold bths
  rw [ps_ofPs]
 obtain ⟨q,hq,eq⟩:=z1v _ p hp
 have hq':=(dsc_perm _).mem_iff.mp hq
 obtain ⟨l,hl,hql⟩:=List.mem_flatMap.mp hq'
 have qo:=(ok_iff.mp (h l hl)).1 q hql
 have pos:∀ (ks:List Lad),(∀ l ∈ ks,l.Ok B)->0<=(ks.map fun l=>S l p.1).sum/\∀ l ∈ ks,S l p.1<=(ks.map fun l=>S l p.1).sum:=by
  intro ks
  induction ks with
  | nil=>intro _; exact ⟨Int.le_refl _,fun l hl=>nomatch hl⟩
  | cons k r ih =>
   intro hk
   obtain ⟨i1,i2⟩:=ih fun l hl=>hk l (mcm _ hl)
   have n1:=S_nonneg (hk k (mcs ..)) p.1
   rw [List.map_cons,List.sum_cons]
   refine ⟨by omega,fun l hl=>?_⟩
   rcases List.mem_cons.mp hl with rfl | hl
   ·omega
   ·have:=i2 l hl; omega
 have s1:=(pos ls h).2 l hl
 have s2:S l p.1=q.2:=by rw [<- eq]; exact S_mem (h l hl) hql
 have s3:=hs p.1
 refine ⟨?_,by omega,by omega⟩
 rw [<- eq]; exact qo.1.mono hD
theorem bths_parts (ls:List Lad):(bths ls).parts<=(ls.map parts).sum:=by
 have e:∀ ls:List Lad,tot (ls.flatMap ps)=(ls.map parts).sum:=by
  intro ls
  induction ls with
  | nil=>rfl
  | cons l r ih =>
   rw [List.flatMap_cons,tot_append,ih,List.map_cons,List.sum_cons]
   have:tot l.ps=l.parts:=by
    have:=parts_ofPs l.ps
    rw [ofPs_ps] at this; exact this.symm
   rw [this]
 show (ofPs (jn (dsc (ls.flatMap ps)))).parts<=_
 rw [parts_ofPs,<- e]
 exact Nat.le_trans (tot_jn _) (Nat.le_of_eq (tot_perm (dsc_perm _)))
theorem bths_deep {ls:List Lad} {n:Nat} (h:∀ l ∈ ls,l.deep<=n):(bths ls).deep<=n:=by
 refine deep_le' fun p hp=>?_
 unfold bths at hp
 rw [ps_ofPs] at hp
 obtain ⟨q,hq,e⟩:=z1v _ p hp
 obtain ⟨l,hl,hql⟩:=List.mem_flatMap.mp ((dsc_perm _).mem_iff.mp hq)
 have:=l.mem_deep q hql
 have:=h l hl
 rw [<- e]; omega
end Lad
namespace Gr
variable {b:Bk} {ρ σ:Str->Lad} {C:Int} {ns:List Str}
theorem rk_nil:rk b ρ .nil=.nil:=by
 show Lad.ofPs (jn (Lad.dsc []))=.nil
 have:Lad.dsc []=[]:=List.Perm.eq_nil (Lad.dsc_perm [])
 rw [this]; rfl
theorem rkT_congr:∀ {g:Gr},(∀ x ∈ g.within,ρ x.1.1=σ x.1.1)->rkT b ρ g=rkT b σ g
 | .nil,_=>rfl
 | .cons k g m r,h=>by
  have e1:=h ((k,g),m) (mcs ..)
  have e2:=rkT_congr (g:=g) fun x hx=>h x (mcm _ (mal _ hx))
  have e3:=rkT_congr (g:=r) fun x hx=>h x (mcm _ (mar _ hx))
  show Lad.tms (lad (b.wide k) (ρ k) (Lad.bths (rkT b ρ g))) m::rkT b ρ r=_::rkT b σ r
  rw [e2,e3,show ρ k=σ k from e1]
theorem rk_congr {g:Gr} (h:∀ x ∈ g.within,ρ x.1.1=σ x.1.1):rk b ρ g=rk b σ g:=by unfold rk; rw [rkT_congr h]
/-- how great the ladder of a grove is,by those of its kinds -/
theorem rk_size {P D:Nat} (hk:∀ n ∈ ns,(ρ n).parts<=P/\(ρ n).deep<=D):∀ {g:Gr},Named ns g->((rkT b ρ g).map Lad.parts).sum<=P*g.parts/\∀ l ∈ rkT b ρ g,l.deep<=D+g.deep
 | .nil,_=>And.intro (Nat.zero_le _) (fun l hl=>nomatch hl)
 | .cons k g m r,h=>by
  have hkn:k ∈ ns:=h ((k,g),m) (mcs ..)
  obtain ⟨g1,g2⟩:=rk_size hk (g:=g) fun x hx=>h x (mcm _ (mal _ hx))
  obtain ⟨r1,r2⟩:=rk_size hk (g:=r) fun x hx=>h x (mcm _ (mar _ hx))
  obtain ⟨k1,k2⟩:=hk k hkn
  have ip:(Lad.bths (rkT b ρ g)).parts<=P*g.parts:=Nat.le_trans (Lad.bths_parts _) g1
  have idp:(Lad.bths (rkT b ρ g)).deep<=D+g.deep:=Lad.bths_deep g2
  have lp:=Lad.lad_parts (b.wide k) (ρ k) (Lad.bths (rkT b ρ g))
  have tp:=Lad.tms_parts (lad (b.wide k) (ρ k) (Lad.bths (rkT b ρ g))) m
  have ld:=Lad.lad_deep (w:=b.wide k) (o:=ρ k) (l:=Lad.bths (rkT b ρ g)) (n:=D+g.deep) (by omega) idp
  have e1:(Gr.cons k g m r).parts=1+g.parts+r.parts:=rfl
  have e2:(Gr.cons k g m r).deep=max (1+g.deep) r.deep:=rfl
  refine ⟨?_,fun l hl=>?_⟩
  ·show (Lad.tms (lad (b.wide k) (ρ k) (Lad.bths (rkT b ρ g))) m).parts+((rkT b ρ r).map Lad.parts).sum<=_
   rw [e1,Nat.mul_add,Nat.mul_add,Nat.mul_one]
   omega
  ·rw [e2]
   rcases List.mem_cons.mp hl with rfl | hl
   ·have:=Lad.tms_deep (n:=D+g.deep+1) m ld
    omega
   ·have:=r2 l hl; omega
theorem rk_nums {x:Nat} (hk:∀ n ∈ ns,(ρ n).Ok (2 ^ x)):∀ {g:Gr},Named ns g->g.Ok (2 ^ 29)->(∀ l ∈ rkT b ρ g,l.Ok (2 ^ (x+31*g.parts)))/\∀ y,((rkT b ρ g).map fun l=>Lad.S l y).sum < 2 ^ (x+31*g.parts)
 | .nil,_,_=>And.intro (fun l hl=>nomatch hl) (fun y=>by
  show (0:Int) < _
  have:=z0b (x+31*Gr.nil.parts); omega)
 | .cons k g m r,h,ho=>by
  obtain ⟨_,hg,hm1,hm2,hr,_⟩:=ho
  have hkn:k ∈ ns:=h ((k,g),m) (mcs ..)
  obtain ⟨g1,g2⟩:=rk_nums hk (g:=g) (fun x hx=>h x (mcm _ (mal _ hx))) hg
  obtain ⟨r1,r2⟩:=rk_nums hk (g:=r) (fun x hx=>h x (mcm _ (mar _ hx))) hr
  have e1:(Gr.cons k g m r).parts=1+g.parts+r.parts:=rfl
  have p0:=z0b (x+31*g.parts)
  have px:=z0b x
  have io:(Lad.bths (rkT b ρ g)).Ok (2 ^ (x+31*g.parts)):=Lad.bths_ok g1 (by omega) (Int.le_refl _) g2
  have lo:=Lad.lad_ok (w:=b.wide k) (hk k hkn) io px p0
  have m1:=z0j (show x<=x+31*g.parts by omega)
  have lo2:(lad (b.wide k) (ρ k) (Lad.bths (rkT b ρ g))).Ok (2 ^ (x+31*g.parts+1)):=lo.mono (by rw [z19]; omega)
  have to:=Lad.tms_ok lo2 (show 0<=m by omega)
  have q0:=z0b (x+31*g.parts+1)
  have hb:2 ^ (x+31*g.parts+1)*m+2 ^ (x+31*g.parts+1)<=2 ^ (x+31*g.parts+30):=by
   have:(2:Int) ^ (x+31*g.parts+30)=2 ^ (x+31*g.parts+1)*2 ^ 29:=by rw [<- Int.pow_add]
   rw [this]
   have h2:(2:Int) ^ (x+31*g.parts+1)*(m+1)<=2 ^ (x+31*g.parts+1)*2 ^ 29:=Int.mul_le_mul_of_nonneg_left (by omega) (by omega)
   rw [Int.mul_add,Int.mul_one] at h2
   exact h2
  have to2:=to.mono hb
  have w1:=z0j (show x+31*g.parts+30<=x+31*(1+g.parts+r.parts)-1 by omega)
  have w2:=z0j (show x+31*r.parts<=x+31*(1+g.parts+r.parts)-1 by omega)
  have w3:=z19 (x+31*(1+g.parts+r.parts)-1)
  rw [show x+31*(1+g.parts+r.parts)-1+1=x+31*(1+g.parts+r.parts) by omega] at w3
  have w0:=z0b (x+31*(1+g.parts+r.parts)-1)
  rw [e1]
  refine ⟨fun l hl=>?_,fun y=>?_⟩
  ·rcases List.mem_cons.mp hl with rfl | hl
   ·exact to2.mono (by omega)
   ·exact (r1 l hl).mono (by omega)
  ·show Lad.S (Lad.tms (lad (b.wide k) (ρ k) (Lad.bths (rkT b ρ g))) m) y+((rkT b ρ r).map fun l=>Lad.S l y).sum < _
   have s2:=r2 y
   have s3:Lad.S (Lad.tms (lad (b.wide k) (ρ k) (Lad.bths (rkT b ρ g))) m) y < 2 ^ (x+31*g.parts+30)\/Lad.S (Lad.tms (lad (b.wide k) (ρ k) (Lad.bths (rkT b ρ g))) m) y<=0:=by
    rcases Lad.S_cases to2 y with ⟨h1,_⟩ | ⟨mm,_,h2,_,h4⟩
    ·right; omega
    ·left; omega
   have w4:=z0b (x+31*g.parts+30)
   rcases s3 with s3 | s3 <;> omega
end Gr
namespace Gr
variable {b:Bk} {ρ:Str->Lad} {ns:List Str}
/-- fit,by how great the ladders of the kinds are -/
theorem rk_fit {P D x:Nat} (hk:∀ n ∈ ns,n ∈ b.names/\ρ n ≠ .nil/\(ρ n).parts<=P/\(ρ n).deep<=D/\(ρ n).Ok (2 ^ x)) (hP:1<=P):∀ {g:Gr},Named ns g->g.Ok (2 ^ 29)->P*g.parts<=390->D+g.deep<=24->x+31*g.parts<=2000->Fit b ρ ns g
 | .nil,_,_,_,_,_=>trivial
 | .cons k g m r,h,ho,hp,hd,hx=>by
  have hP':∀ n ∈ ns,(ρ n).parts<=P/\(ρ n).deep<=D:=fun n hn=>⟨(hk n hn).2.2.1,(hk n hn).2.2.2.1⟩
  have hX':∀ n ∈ ns,(ρ n).Ok (2 ^ x):=fun n hn=>(hk n hn).2.2.2.2
  have nm:2 ^ 29<=(2:Int) ^ 2000:=z0j (by decide)
  obtain ⟨hkn,hnn⟩:k ∈ ns/\(Named ns g/\Named ns r):=⟨h ((k,g),m) (mcs ..),fun x hx=>h x (mcm _ (mal _ hx)),fun x hx=>h x (mcm _ (mar _ hx))⟩
  obtain ⟨ok0,hg,hm1,hm2,hr,hrise⟩:=ho
  have ho:(Gr.cons k g m r).Ok (2 ^ 29):=⟨ok0,hg,hm1,hm2,hr,hrise⟩
  have e1:(Gr.cons k g m r).parts=1+g.parts+r.parts:=rfl
  have e2:(Gr.cons k g m r).deep=max (1+g.deep) r.deep:=rfl
  rw [e1,Nat.mul_add,Nat.mul_add,Nat.mul_one] at hp
  rw [e1] at hx
  obtain ⟨s1,s2⟩:=rk_size hP' h
  obtain ⟨g1,g2⟩:=rk_size hP' hnn.1
  obtain ⟨n1,n2⟩:=rk_nums hX' hnn.1 hg
  have p0:=z0b (x+31*g.parts)
  have px:=z0b x
  have io:(Lad.bths (rkT b ρ g)).Ok (2 ^ (x+31*g.parts)):=Lad.bths_ok n1 (by omega) (Int.le_refl _) n2
  have lo:=(Lad.lad_ok (w:=b.wide k) (hX' k hkn) io px p0)
  have m1:=z0j (show x<=x+31*g.parts by omega)
  have m2:=z0j (show x+31*g.parts+1<=2000 by omega)
  have m3:=z19 (x+31*g.parts)
  obtain ⟨kb,kne,kp,kd,kx⟩:=hk k hkn
  have num:∀ {l:Lad},l.Ok (2 ^ 2000)->∀ p ∈ l.ps,0<=p.2/\p.2 < 2 ^ 2000:=fun hl p hp=>by
   have:=(Lad.ok_iff.mp hl).1 p hp
   exact ⟨by omega,this.2.2⟩
  have ip:(Lad.bths (rkT b ρ g)).parts<=P*g.parts:=Nat.le_trans (Lad.bths_parts _) g1
  have idp:(Lad.bths (rkT b ρ g)).deep<=D+g.deep:=Lad.bths_deep g2
  have lp:=Lad.lad_parts (b.wide k) (ρ k) (Lad.bths (rkT b ρ g))
  have ld:=Lad.lad_deep (w:=b.wide k) (o:=ρ k) (l:=Lad.bths (rkT b ρ g)) (n:=D+g.deep) (by omega) idp
  refine ⟨⟨hkn,kb,kne,⟨by omega,by omega,num (kx.mono (by omega))⟩,⟨by show (Lad.bths (rkT b ρ g)).deep<=25; omega,by show (Lad.bths (rkT b ρ g)).parts<=900; omega,num (io.mono (by omega))⟩,⟨by show (lad (b.wide k) (ρ k) (Lad.bths (rkT b ρ g))).deep<=25; omega,by show (lad (b.wide k) (ρ k) (Lad.bths (rkT b ρ g))).parts<=900; omega,num (lo.mono (by omega))⟩,by omega,by omega,?_⟩,rk_fit hk hP hnn.1 hg (by omega) (by omega) (by omega),rk_fit hk hP hnn.2 hr (by omega) (by omega) (by omega)⟩
  have key:∀ ls:List Lad,(ls.flatMap Lad.ps).length<=(ls.map Lad.parts).sum:=by
   intro ls
   induction ls with
   | nil=>exact Nat.le_refl _
   | cons l r ih =>
    rw [List.flatMap_cons,List.length_append,List.map_cons,List.sum_cons,Lad.ps_length]
    have:=l.len_parts
    omega
  have:=key (rkT b ρ (.cons k g m r))
  rw [e1,Nat.mul_add,Nat.mul_add,Nat.mul_one] at s1
  exact Nat.le_trans (Nat.le_trans this s1) (by omega)
end Gr
theorem z0s {rs:List Ru} {r:Ru} (hr:r ∈ rs) {x:Tr × Int} (hx:x ∈ Ru.within r):x.1.1 ∈ ledR rs:=List.mem_flatMap.mpr ⟨r,hr,List.mem_map.mpr ⟨x,hx,rfl⟩⟩
theorem z7m {b:Bk} {ρ σ:Str->Lad} {r:Ru} (h:∀ x ∈ Ru.within r,ρ x.1.1=σ x.1.1):clm b ρ r=clm b σ r:=by
 unfold clm
 rw [Gr.rk_congr fun x hx=>h x (mal _ hx),Gr.rk_congr fun x hx=>h x (mar _ hx)]
def Bk.rules (b:Bk) (n:Str):List Ru:=match b.get n with
 | some k=>k.rs
 | none=>[]
def z1l (b:Bk) (k n:Str):Prop:=k ∈ adj b n/\EndK b n
theorem z8a (b:Bk):WellFounded (z1l b):=by
 have h1:∀ n,EndK b n->Acc (z1l b) n:=fun n h=>by
  induction h with
  | mk _ ih=>exact ⟨_,fun y hy=>ih y hy.1⟩
 exact ⟨fun n=>⟨n,fun y hy=>h1 y (hy.2.next hy.1)⟩⟩
open Classical in
noncomputable def ownF (b:Bk) (n:Str) (rec:∀ k,z1l b k n->Lad):Lad:=Lad.maxL Lad.uno ((b.rules n).map (clm b fun k=>if h:z1l b k n then rec k h else Lad.uno))
noncomputable def z0e (b:Bk):Str->Lad:=(z8a b).fix (ownF b)
theorem z68 {b:Bk} (ok:b.Ok) {k:Kd} (hk:k ∈ b) (he:EndK b k.n):z0e b k.n=Lad.maxL Lad.uno (k.rs.map (clm b (z0e b))):=by
 unfold z0e
 rw [WellFounded.fix_eq]
 unfold ownF
 have er:b.rules k.n=k.rs:=by unfold Bk.rules; rw [Bk.get_self ok.nd hk]
 rw [er]
 congr 1
 refine List.map_congr_left fun r hr=>z7m fun x hx=>?_
 have hl:z1l b x.1.1 k.n:=⟨by rw [z10 ok hk]; exact z0s hr hx,he⟩
 rw [dif_pos hl]
theorem Gr.Fit.mono {b:Bk} {ρ:Str->Lad} {ns ms:List Str} (h:∀ n ∈ ns,n ∈ ms):∀ {g:Gr},Gr.Fit b ρ ns g->Gr.Fit b ρ ms g
 | .nil,_=>trivial
 | .cons k g m r,hf=>by
  obtain ⟨⟨h1,h2,h3,h4,h5,h6,h7,h8,h9⟩,hg,hr⟩:=hf
  exact ⟨⟨h _ h1,h2,h3,h4,h5,h6,h7,h8,h9⟩,Gr.Fit.mono h hg,Gr.Fit.mono h hr⟩
theorem z4a {α:Type} {p q:α->Bool}:∀ {l:List α},(∀ x ∈ l,p x=true->q x=true)->(∃ x ∈ l,q x=true/\p x=false)->(l.filter p).length < (l.filter q).length
 | [],_,⟨x,hx,_⟩=>nomatch hx
 | a::r,h,⟨x,hx,hq,hp⟩=>by
  have hr:∀ x ∈ r,p x=true->q x=true:=fun y hy=>h y (mcm _ hy)
  have le:∀ l:List α,(∀ x ∈ l,p x=true->q x=true)->(l.filter p).length<=(l.filter q).length:=by
   intro l
   induction l with
   | nil=>intro _; exact Nat.le_refl _
   | cons c s ih =>
    intro hc
    have:=ih fun y hy=>hc y (mcm _ hy)
    cases hpc:p c with
    | true =>
     rw [List.filter_cons_of_pos hpc,List.filter_cons_of_pos (hc c (mcs ..) hpc)]
     simpa using this
    | false =>
     rw [List.filter_cons_of_neg (by simp [hpc])]
     cases hqc:q c with
     | true=>rw [List.filter_cons_of_pos hqc,List.length_cons]; omega
     | false=>rw [List.filter_cons_of_neg (by simp [hqc])]; exact this
  rcases List.mem_cons.mp hx with rfl | hx
  ·rw [List.filter_cons_of_neg (by simp [hp]),List.filter_cons_of_pos hq,List.length_cons]
   have:=le r hr
   omega
  ·have ih:=z4a hr ⟨x,hx,hq,hp⟩
   cases hpc:p a with
   | true =>
    rw [List.filter_cons_of_pos hpc,List.filter_cons_of_pos (h a (mcs ..) hpc)]
    simpa using ih
   | false =>
    rw [List.filter_cons_of_neg (by simp [hpc])]
    cases hqc:q a with
    | true=>rw [List.filter_cons_of_pos hqc,List.length_cons]; omega
    | false=>rw [List.filter_cons_of_neg (by simp [hqc])]; exact ih
open Classical in
/-- to how many kinds one comes from a kind -/
noncomputable def cntR (b:Bk) (n:Str):Nat:=(b.names.filter fun k=>decide (Rch b n k)).length
theorem z9x {b:Bk} (ok:b.Ok) {n k:Str} (he:EndK b n) (hk:k ∈ adj b n):cntR b k < cntR b n:=by
 refine z4a (fun x _ hx=>?_) ⟨k,z1b ok hk,?_,?_⟩
 ·simp only [decide_eq_true_eq] at hx ⊢
  exact Rch.cons hk hx
 ·simp only [decide_eq_true_eq]; exact .one hk
 ·simp only [decide_eq_false_iff_not]; exact (he.next hk).noring
theorem zc5 {b:Bk} {n:Str} (he:EndK b n) (hn:n ∈ b.names):cntR b n < b.length:=by
 have h:=z4a (p:=fun k=>@decide (Rch b n k) (Classical.propDecidable _)) (q:=fun _=>true) (l:=b.names) (fun _ _ _=>rfl) ⟨n,hn,rfl,by simp only [decide_eq_false_iff_not]; exact he.noring⟩
 have e:(b.names.filter fun _=>true).length=b.length:=by rw [List.filter_eq_self.mpr (fun _ _=>rfl),List.length_map]
 rw [e] at h
 exact h
def Pm (m:Nat):Nat->Nat
 | 0=>2
 | c+1=>m*Pm m c+2
theorem zb8 (m:Nat):∀ c,2<=Pm m c
 | 0=>Nat.le_refl _
 | c+1=>Nat.le_add_left _ _
structure Bnd (m c:Nat) (l:Lad):Prop where
 ne:l ≠ .nil
 parts:l.parts<=Pm m c
 deep:l.deep<=2+m*c
 ok:l.Ok (2 ^ (2+(31*m+2)*c))
theorem z74 {b:Bk} {ρ:Str->Lad} {ns:List Str} {P D x m:Nat} {r:Ru} (hk:∀ n ∈ ns,(ρ n).parts<=P/\(ρ n).deep<=D) (hx:∀ n ∈ ns,(ρ n).Ok (2 ^ x)) (h1:Gr.Named ns r.1) (h2:Gr.Named ns r.2) (o1:r.1.Ok (2 ^ 29)) (o2:r.2.Ok (2 ^ 29)) (hs:r.1.parts+r.2.parts<=m) (hD:2<=D) :
  (clm b ρ r).parts<=m*P+2/\(clm b ρ r).deep<=D+m/\(clm b ρ r).Ok (2 ^ (x+31*m+2))/\(Gr.rk b ρ r.1).deep<=D+m/\(Gr.rk b ρ r.2).deep<=D+m/\(Gr.rk b ρ r.1).parts<=m*P/\(Gr.rk b ρ r.2).parts<=m*P:=by
 obtain ⟨a1,a2⟩:=Gr.rk_size (b:=b) hk h1
 obtain ⟨b1,b2⟩:=Gr.rk_size (b:=b) hk h2
 obtain ⟨c1,c2⟩:=Gr.rk_nums (b:=b) hx h1 o1
 obtain ⟨d1,d2⟩:=Gr.rk_nums (b:=b) hx h2 o2
 have w1:=z0d r.1
 have w2:=z0d r.2
 have p1:(Gr.rk b ρ r.1).parts<=P*r.1.parts:=Nat.le_trans (Lad.bths_parts _) a1
 have p2:(Gr.rk b ρ r.2).parts<=P*r.2.parts:=Nat.le_trans (Lad.bths_parts _) b1
 have q1:(Gr.rk b ρ r.1).deep<=D+r.1.deep:=Lad.bths_deep a2
 have q2:(Gr.rk b ρ r.2).deep<=D+r.2.deep:=Lad.bths_deep b2
 have e1:=z0b (x+31*r.1.parts)
 have e2:=z0b (x+31*r.2.parts)
 have k1:(Gr.rk b ρ r.1).Ok (2 ^ (x+31*r.1.parts)):=Lad.bths_ok c1 (by omega) (Int.le_refl _) c2
 have k2:(Gr.rk b ρ r.2).Ok (2 ^ (x+31*r.2.parts)):=Lad.bths_ok d1 (by omega) (Int.le_refl _) d2
 have ko:=Lad.abv_ok k1 k2 e1 e2
 have hm:P*r.1.parts+P*r.2.parts<=m*P:=by
  rw [<- Nat.mul_add,Nat.mul_comm m P]
  exact Nat.mul_le_mul_left _ hs
 have ap:=Lad.abv_parts (Gr.rk b ρ r.1) (Gr.rk b ρ r.2)
 have ad:=Lad.abv_deep (n:=D+m) (l:=Gr.rk b ρ r.1) (k:=Gr.rk b ρ r.2) (by omega) (by omega) (by omega)
 have m1:=z0j (show x+31*r.1.parts<=x+31*m by omega)
 have m2:=z0j (show x+31*r.2.parts<=x+31*m by omega)
 have m3:=z19 (x+31*m)
 have m4:(2:Int) ^ (x+31*m+2)=2*2 ^ (x+31*m+1):=z19 (x+31*m+1)
 have m5:=z0b (x+31*m)
 exact ⟨by unfold clm; omega,ad,ko.mono (by omega),by omega,by omega,by omega,by omega⟩
/-- the ladders that own ranks are,of a book of few trees in a rule -/
theorem za1 {b:Bk} (ok:b.Ok) {m:Nat} (hm:∀ k ∈ b,∀ r ∈ k.rs,r.1.Ok (2 ^ 29)/\r.2.Ok (2 ^ 29)/\r.1.parts+r.2.parts<=m):∀ (c:Nat) (k:Kd),k ∈ b->EndK b k.n->cntR b k.n<=c->Bnd m c (z0e b k.n)
 | c,k,hk,he,hc=>by
  have hadj:=z10 ok hk
  have nm:∀ r ∈ k.rs,Gr.Named (adj b k.n) r.1/\Gr.Named (adj b k.n) r.2:=fun r hr=>⟨fun x hx=>by rw [hadj]; exact z0s hr (mal _ hx),fun x hx=>by rw [hadj]; exact z0s hr (mar _ hx)⟩
  have eq:=z68 ok hk he
  have ne:z0e b k.n ≠ .nil:=fun z=>by
   have:=Lad.maxL_ge (k.rs.map (clm b (z0e b))) Lad.uno Lad.uno (mcs ..)
   rw [<- eq,z] at this
   rw [Lad.lt_nil_cons] at this; cases this
  have p2:=zb8 m c
  have x0:(2:Int)<=2 ^ (2+(31*m+2)*c):=by
   have:=z0j (show 1<=2+(31*m+2)*c by omega)
   exact this
  have ofClm:(∀ r ∈ k.rs,(clm b (z0e b) r).parts<=Pm m c/\(clm b (z0e b) r).deep<=2+m*c/\(clm b (z0e b) r).Ok (2 ^ (2+(31*m+2)*c)))->Bnd m c (z0e b k.n):=fun h=>by
   refine ⟨ne,?_,?_,?_⟩ <;> rw [eq] <;> rcases List.mem_cons.mp (Lad.maxL_mem (k.rs.map (clm b (z0e b))) Lad.uno) with e | e
   ·rw [e]; show 1<=_; omega
   ·obtain ⟨r,hr,e⟩:=List.mem_map.mp e
    rw [<- e]; exact (h r hr).1
   ·rw [e]; show 1<=_; omega
   ·obtain ⟨r,hr,e⟩:=List.mem_map.mp e
    rw [<- e]; exact (h r hr).2.1
   ·rw [e]; exact Lad.uno_ok.mono x0
   ·obtain ⟨r,hr,e⟩:=List.mem_map.mp e
    rw [<- e]; exact (h r hr).2.2
  cases c with
  | zero =>
   have h0:adj b k.n=[]:=by
    cases ha:adj b k.n with
    | nil=>rfl
    | cons y ys =>
     have:=z9x ok he (k:=y) (by rw [ha]; exact mcs ..)
     omega
   refine ofClm fun r hr=>?_
   obtain ⟨n1,n2⟩:=nm r hr
   rw [h0] at n1 n2
   have nil_of:∀ g:Gr,Gr.Named [] g->g=.nil:=fun g h=>by
    cases g with
    | nil=>rfl
    | cons k g m r=>exact absurd (h ((k,g),m) (mcs ..)) (by simp)
   have e:r=(.nil,.nil):=Prod.ext (nil_of _ n1) (nil_of _ n2)
   rw [e,z8d]
   exact ⟨by show 1<=2; decide,by show 1<=_; omega,Lad.uno_ok.mono x0⟩
  | succ c =>
   have hch:∀ n ∈ adj b k.n,Bnd m c (z0e b n):=fun n hn=>by
    have hlt:=z9x ok he hn
    obtain ⟨kd,eg⟩:=Bk.get_of (z1b ok hn)
    obtain ⟨hkd,rfl⟩:=Bk.get_some eg
    exact za1 ok hm c kd hkd (he.next hn) (by omega)
   refine ofClm fun r hr=>?_
   obtain ⟨n1,n2⟩:=nm r hr
   obtain ⟨o1,o2,hs⟩:=hm k hk r hr
   obtain ⟨c1,c2,c3,_⟩:=z74 (b:=b) (ρ:=z0e b) (P:=Pm m c) (D:=2+m*c) (x:=2+(31*m+2)*c) (fun n hn=>⟨(hch n hn).parts,(hch n hn).deep⟩) (fun n hn=>(hch n hn).ok) n1 n2 o1 o2 hs (by omega)
   refine ⟨c1,by rw [Nat.mul_succ]; omega,?_⟩
   have:2+(31*m+2)*(c+1)=2+(31*m+2)*c+31*m+2:=by rw [Nat.mul_succ]; omega
   rw [this]; exact c3
theorem z8s {b:Bk} (ok:b.Ok) {m:Nat} (hm:∀ k ∈ b,∀ r ∈ k.rs,r.1.Ok (2 ^ 29)/\r.2.Ok (2 ^ 29)/\r.1.parts+r.2.parts<=m) (hP:m*Pm m (b.length-1)<=390) (hD:2+m*(b.length-1)+m<=24) (hX:2+(31*m+2)*(b.length-1)+31*m<=2000):OwnR b (z0e b)/\∀ n ∈ b.names,EndK b n->Bnd m (b.length-1) (z0e b n):=by
 have hb:∀ n ∈ b.names,EndK b n->Bnd m (b.length-1) (z0e b n):=fun n hn he=>by
  obtain ⟨kd,eg⟩:=Bk.get_of hn
  obtain ⟨hkd,rfl⟩:=Bk.get_some eg
  have:=zc5 he hn
  exact za1 ok hm _ kd hkd he (by omega)
 have hch:∀ k ∈ b,EndK b k.n->∀ n ∈ adj b k.n,Bnd m (b.length-1) (z0e b n):=fun k hk he n hn=>hb n (z1b ok hn) (he.next hn)
 have p2:=zb8 m (b.length-1)
 refine ⟨⟨fun k hk he=>z68 ok hk he,fun k hk he ns hns r hr=>?_,fun k hk he r hr=>?_⟩,hb⟩
 ·have hadj:=z10 ok hk
  have n1:Gr.Named (adj b k.n) r.1:=fun x hx=>by rw [hadj]; exact z0s hr (mal _ hx)
  have n2:Gr.Named (adj b k.n) r.2:=fun x hx=>by rw [hadj]; exact z0s hr (mar _ hx)
  obtain ⟨o1,o2,hs⟩:=hm k hk r hr
  have hc:=hch k hk he
  obtain ⟨_,_,_,d1,d2,q1,q2⟩:=z74 (b:=b) (ρ:=z0e b) (P:=Pm m (b.length-1)) (D:=2+m*(b.length-1)) (x:=2+(31*m+2)*(b.length-1)) (fun n hn=>⟨(hc n hn).parts,(hc n hn).deep⟩) (fun n hn=>(hc n hn).ok) n1 n2 o1 o2 hs (by omega)
  have w1:=z0d r.1
  have w2:=z0d r.2
  have hP1:Pm m (b.length-1)*r.1.parts<=390:=Nat.le_trans (Nat.mul_le_mul_left _ (show r.1.parts<=m by omega)) (by rw [Nat.mul_comm]; exact hP)
  have hP2:Pm m (b.length-1)*r.2.parts<=390:=Nat.le_trans (Nat.mul_le_mul_left _ (show r.2.parts<=m by omega)) (by rw [Nat.mul_comm]; exact hP)
  have hk':∀ n ∈ adj b k.n,n ∈ b.names/\z0e b n ≠ .nil/\(z0e b n).parts<=Pm m (b.length-1)/\(z0e b n).deep<=2+m*(b.length-1)/\(z0e b n).Ok (2 ^ (2+(31*m+2)*(b.length-1))):=fun n hn=>⟨z1b ok hn,(hc n hn).ne,(hc n hn).parts,(hc n hn).deep,(hc n hn).ok⟩
  exact ⟨(Gr.rk_fit hk' (by omega) n1 o1 hP1 (by omega) (by omega)).mono hns,(Gr.rk_fit hk' (by omega) n2 o2 hP2 (by omega) (by omega)).mono hns,by omega,by omega,by omega,by omega⟩
 ·have hadj:=z10 ok hk
  have n1:Gr.Named (adj b k.n) r.1:=fun x hx=>by rw [hadj]; exact z0s hr (mal _ hx)
  have n2:Gr.Named (adj b k.n) r.2:=fun x hx=>by rw [hadj]; exact z0s hr (mar _ hx)
  obtain ⟨o1,o2,hs⟩:=hm k hk r hr
  have hc:=hch k hk he
  obtain ⟨_,d0,_⟩:=z74 (b:=b) (ρ:=z0e b) (P:=Pm m (b.length-1)) (D:=2+m*(b.length-1)) (x:=2+(31*m+2)*(b.length-1)) (fun n hn=>⟨(hc n hn).parts,(hc n hn).deep⟩) (fun n hn=>(hc n hn).ok) n1 n2 o1 o2 hs (by omega)
  omega
/-- the drawn books: each has its own ranks -/
theorem zbu {b:Bk} (ok:b.Ok) {ks:List Str} {rounds:Bool} (h:Kinds40 ks rounds b) (hl:ks.length<=6):OwnR b (z0e b)/\∀ n ∈ b.names,EndK b n->Bnd (if ks.length > 3 then 2 else 3) (b.length-1) (z0e b n):=by
 have bl:b.length=ks.length:=by have:=h.names.length_eq; rwa [List.length_map] at this
 have hm:∀ k ∈ b,∀ r ∈ k.rs,r.1.Ok (2 ^ 29)/\r.2.Ok (2 ^ 29)/\r.1.parts+r.2.parts<=if ks.length > 3 then 2 else 3:=fun k hk r hr=>⟨(h.nums k hk r hr).1.mono (by decide),(h.nums k hk r hr).2.mono (by decide),h.size k hk r hr⟩
 by_cases h3:ks.length > 3
 ·rw [if_pos h3] at hm ⊢
  have hb:b.length=4\/b.length=5\/b.length=6:=by omega
  refine z8s ok hm ?_ ?_ ?_ <;> rcases hb with e | e | e <;> rw [e] <;> decide
 ·rw [if_neg h3] at hm ⊢
  have hb:b.length=0\/b.length=1\/b.length=2\/b.length=3:=by omega
  refine z8s ok hm ?_ ?_ ?_ <;> rcases hb with e | e | e | e <;> rw [e] <;> decide
/-- all trees that stand in a grove,in their order -/
def Gr.ins:Gr->List Tr
 | .nil=>[]
 | .cons k g m r=>(k,g)::(g.ins++r.ins)
/-- a list of pairs,falling -/
structure FallL (B:Int) (ls:List (Lad × Int)):Prop where
 ok:∀ p ∈ ls,p.1.Ok B/\1<=p.2
 fall:ls.Pairwise fun p q=>q.1.lt p.1=true
theorem FallL.sum {B:Int} {ls:List (Lad × Int)} (h:FallL B ls):∀ p ∈ ls,Lad.sumAt ls p.1=p.2:=by
 have hf:=h.fall
 clear h
 induction ls with
 | nil=>intro p hp; cases hp
 | cons q r ih =>
  intro p hp
  obtain ⟨h1,h2⟩:=List.pairwise_cons.mp hf
  obtain ⟨e,m⟩:=q
  rw [Lad.sumAt_cons]
  rcases List.mem_cons.mp hp with rfl | hp
  ·rw [if_pos rfl,Lad.sumAt_zero fun q hq=>Lad.lt_ne (h1 q hq)]; omega
  ·rw [if_neg (fun z=>Lad.lt_ne (h1 p hp) z.symm),ih h2 p hp]; omega
/-- put in: where the exponent stands,or before the first that is less -/
theorem FallL.ins {B:Int} {ls:List (Lad × Int)} (h:FallL B ls) {e:Lad} {m:Int} (ho:e.Ok B) (hm:1<=m) {n:Nat} (hn:n<=ls.length) (h1:∀ p ∈ ls.take n,e.lt p.1=true) (h2:∀ p,ls[n]?=some p->p.1.lt e=true):FallL B (ls.take n++[(e,m)]++ls.drop n)/\∀ x,Lad.sumAt (ls.take n++[(e,m)]++ls.drop n) x=Lad.sumAt ls x+if e=x then m else 0:=by
 have hd:∀ p ∈ ls.drop n,p.1.lt e=true:=fun p hp=>by
  cases hdr:ls.drop n with
  | nil=>rw [hdr] at hp; cases hp
  | cons q r =>
   have hq:ls[n]?=some q:=by
    have:=congrArg (·[0]?) hdr
    rw [List.getElem?_drop] at this
    simpa using this
   have hpw:=h.fall.sublist (List.drop_sublist n ls)
   rw [hdr] at hp hpw
   rcases List.mem_cons.mp hp with rfl | hp
   ·exact h2 _ hq
   ·exact Lad.lt_trans _ _ _ ((List.pairwise_cons.mp hpw).1 p hp) (h2 q hq)
 have hsplit:=List.take_append_drop n ls
 refine ⟨⟨fun p hp=>?_,?_⟩,fun x=>?_⟩
 ·rcases List.mem_append.mp hp with hp | hp
  ·rcases List.mem_append.mp hp with hp | hp
   ·exact h.ok p (List.mem_of_mem_take hp)
   ·rw [List.mem_singleton.mp hp]; exact ⟨ho,hm⟩
  ·exact h.ok p (List.mem_of_mem_drop hp)
 ·have hf:=h.fall
  rw [<- hsplit] at hf
  obtain ⟨f1,f2,f3⟩:=List.pairwise_append.mp hf
  refine List.pairwise_append.mpr ⟨List.pairwise_append.mpr ⟨f1,List.pairwise_singleton _ _,fun p hp q hq=>by rw [List.mem_singleton.mp hq]; exact h1 p hp⟩,f2,fun p hp q hq=>?_⟩
  rcases List.mem_append.mp hp with hp | hp
  ·exact f3 p hp q hq
  ·rw [List.mem_singleton.mp hp]; exact hd q hq
 ·rw [Lad.sumAt_append,Lad.sumAt_append,Lad.sumAt_cons]
  have:Lad.sumAt ls x=Lad.sumAt (ls.take n) x+Lad.sumAt (ls.drop n) x:=by rw [<- Lad.sumAt_append,hsplit]
  rw [this]
  have z:Lad.sumAt [] x=0:=rfl
  rw [z]
  omega
theorem FallL.add {B:Int} {ls:List (Lad × Int)} (h:FallL B ls) {e:Lad} {m c:Int} (hm:1<=m) {n:Nat} (hp:ls[n]?=some (e,c)):FallL B (ls.set n (e,c+m))/\∀ x,Lad.sumAt (ls.set n (e,c+m)) x=Lad.sumAt ls x+if e=x then m else 0:=by
 obtain ⟨hn,hpe⟩:=List.getElem?_eq_some_iff.mp hp
 have e1:ls.set n (e,c+m)=ls.take n++(e,c+m)::ls.drop (n+1):=List.set_eq_take_append_cons_drop .. |>.trans (by rw [if_pos hn])
 have e2:ls=ls.take n++(e,c)::ls.drop (n+1):=by
  have:=List.take_append_drop n ls
  rw [List.drop_eq_getElem_cons hn,hpe] at this
  exact this.symm
 have hf:=h.fall
 have hok:=h.ok
 rw [e1]
 have hsum:∀ x,Lad.sumAt ls x=Lad.sumAt (ls.take n) x+((if e=x then c else 0)+Lad.sumAt (ls.drop (n+1)) x):=fun x=>by
  have this:Lad.sumAt ls x=Lad.sumAt (ls.take n++(e,c)::ls.drop (n+1)) x:=congrArg (fun l=>Lad.sumAt l x) e2
  rw [this,Lad.sumAt_append,Lad.sumAt_cons]
 have hm1:=hok _ (List.mem_of_getElem? hp)
 refine ⟨⟨fun p hp=>?_,?_⟩,fun x=>?_⟩
 ·rcases List.mem_append.mp hp with hp | hp
  ·exact hok p (List.mem_of_mem_take hp)
  ·rcases List.mem_cons.mp hp with rfl | hp
   ·exact ⟨hm1.1,by have:(1:Int)<=c:=hm1.2; show 1<=c+m; omega⟩
   ·exact hok p (List.mem_of_mem_drop hp)
 ·rw [e2] at hf
  obtain ⟨f1,f2,f3⟩:=List.pairwise_append.mp hf
  obtain ⟨g1,g2⟩:=List.pairwise_cons.mp f2
  refine List.pairwise_append.mpr ⟨f1,List.pairwise_cons.mpr ⟨g1,g2⟩,fun p hp q hq=>?_⟩
  rcases List.mem_cons.mp hq with rfl | hq
  ·exact f3 p hp (e,c) (mcs ..)
  ·exact f3 p hp q (mcm _ hq)
 ·rw [Lad.sumAt_append,Lad.sumAt_cons,hsum]
  split <;> omega
theorem Bears.cut {K:PySem.W.Frag} {H:Hp} {β:Type} {enc:β->PyData}:∀ (n:Nat) {us:List V} {bs:List β},Bears K H enc us bs->Bears K H enc (us.take n) (bs.take n)/\Bears K H enc (us.drop n) (bs.drop n)
 | 0,_,_,h=>⟨.nil,h⟩
 | n+1,_,_,.nil=>⟨.nil,.nil⟩
 | n+1,_,_,.cons a t=>⟨.cons a (Bears.cut n t).1,(Bears.cut n t).2⟩
/-- a dict from kinds to where their rules lead,in their order -/
inductive LedB (K:PySem.W.Frag) (H:Hp):List (Key × V)->Bk->Prop
 | nil:LedB K H [] []
 | cons {l:Addr} {k:Kd} {kvs:List (Key × V)} {b:Bk}:H l=some (.lst ((ledR k.rs).map V.str))->LedB K H kvs b->LedB K H ((Sum.inr k.n,.ref l)::kvs) (k::b)
section
variable {K:PySem.W.Frag} {H H':Hp}
theorem LedB.length:∀ {kvs:List (Key × V)} {b:Bk},LedB K H kvs b->kvs.length=b.length
 | _,_,.nil=>rfl
 | _,_,.cons _ t=>congrArg (·+1) t.length
theorem LedB.append:∀ {kvs kws:List (Key × V)} {b c:Bk},LedB K H kvs b->LedB K H kws c->LedB K H (kvs++kws) (b++c)
 | _,_,_,_,.nil,h=>h
 | _,_,_,_,.cons a t,h=>.cons a (t.append h)
theorem LedB.val {n:Str} {k:Kd}:∀ {kvs:List (Key × V)} {b:Bk},LedB K H kvs b->b.get n=some k->∃ l,valV kvs (Sum.inr n)=some (.ref l)/\H l=some (.lst ((ledR k.rs).map V.str))
 | _,_,.nil,e=>by simp [Bk.get] at e
 | _,_,.cons (l:=l) (k:=kk) (b:=bb) a t,e=>by
  by_cases h:kk.n=n
  ·have e':kk=k:=by
    have:Bk.get (kk::bb) n=some kk:=by simp [Bk.get,h]
    rw [this] at e; exact Option.some.inj e
   subst e'
   exact ⟨l,valV_pos (by rw [h]),a⟩
  ·have e':Bk.get bb n=some k:=by
    unfold Bk.get at e
    rw [List.find?_cons_of_neg (by simpa using h)] at e
    exact e
   obtain ⟨l',h1,h2⟩:=t.val e'
   exact ⟨l',by rw [valV_neg (fun z=>h (Sum.inr.inj z))]; exact h1,h2⟩
theorem LedB.sb {ps:List Addr} (e:SB ps H H'):∀ {kvs:List (Key × V)} {b:Bk},LedB K H kvs b->(∀ p ∈ kvs,∀ q ∈ ps,p.2 ≠ .ref q)->LedB K H' kvs b
 | _,_,.nil,_=>.nil
 | _,_,.cons a t,h=>.cons (e.keep _ _ a fun z=>h _ mcs _ z rfl) (LedB.sb e t fun p hp=>h p (mcm _ hp))
theorem LedB.ne {q:Addr} (hq:H q=none):∀ {kvs:List (Key × V)} {b:Bk},LedB K H kvs b->∀ p ∈ kvs,p.2 ≠ .ref q
 | _,_,.nil,p,hp=>nomatch hp
 | _,_,.cons a t,p,hp=>by
  rcases List.mem_cons.mp hp with e | e
  ·rw [e]
   intro z
   rw [V.ref.inj z] at a
   rw [a] at hq; cases hq
  ·exact LedB.ne hq t p e
theorem LedB.keys:∀ {kvs:List (Key × V)} {b:Bk},LedB K H kvs b->kvs.map (·.1)=b.names.map Sum.inr
 | _,_,.nil=>rfl
 | _,_,.cons a t=>by rw [List.map_cons,LedB.keys t]; rfl
theorem LedB.new {kvs:List (Key × V)} {b:Bk} (h:LedB K H kvs b) {n:Str} (hn:n ∉ b.names):∀ p ∈ kvs,p.1 ≠ Sum.inr n:=fun p hp z=>by
 have h3:p.1 ∈ b.names.map (Sum.inr (α:=Int)):=by rw [<- h.keys]; exact List.mem_map.mpr ⟨p,hp,rfl⟩
 rw [z] at h3
 obtain ⟨m,hm,e⟩:=List.mem_map.mp h3
 rw [Sum.inr.inj e] at hm
 exact hn hm
end
structure Own40 (b:Bk) (ρ:Str->Lad) (P:Nat):Prop where
 own:OwnR b ρ
 bnd:∃ x D:Nat,D<=12/\x<=330/\∀ n ∈ b.names,EndK b n->ρ n ≠ .nil/\(ρ n).parts<=P/\(ρ n).deep<=D/\(ρ n).Ok (2 ^ x)
 ru:∀ k ∈ b,∀ r ∈ k.rs,r.1.Ok (2 ^ 29)/\r.2.Ok (2 ^ 29)
theorem Own40.of {b:Bk} (ok:b.Ok) {ks:List Str} {rounds:Bool} (h:Kinds40 ks rounds b) (hl:ks.length<=6):Own40 b (z0e b) (if ks.length<=5 then 62 else 126):=by
 obtain ⟨o1,o2⟩:=zbu ok h hl
 have bl:b.length=ks.length:=by have:=h.names.length_eq; rwa [List.length_map] at this
 have b1:=ok.pos
 have ru:∀ k ∈ b,∀ r ∈ k.rs,r.1.Ok (2 ^ 29)/\r.2.Ok (2 ^ 29):=fun k hk r hr=>⟨(h.nums k hk r hr).1.mono (by decide),(h.nums k hk r hr).2.mono (by decide)⟩
 by_cases h3:ks.length > 3
 ·rw [if_pos h3] at o2
  refine ⟨o1,⟨2+(31*2+2)*(b.length-1),2+2*(b.length-1),by omega,by omega,fun n hn he=>⟨(o2 n hn he).ne,Nat.le_trans (o2 n hn he).parts ?_,(o2 n hn he).deep,(o2 n hn he).ok⟩⟩,ru⟩
  have hb:b.length=4\/b.length=5\/b.length=6:=by omega
  rw [<- bl]
  rcases hb with e | e | e <;> rw [e] <;> decide
 ·rw [if_neg h3] at o2
  refine ⟨o1,⟨2+(31*3+2)*(b.length-1),2+3*(b.length-1),by omega,by omega,fun n hn he=>⟨(o2 n hn he).ne,Nat.le_trans (o2 n hn he).parts ?_,(o2 n hn he).deep,(o2 n hn he).ok⟩⟩,ru⟩
  have hb:b.length=1\/b.length=2\/b.length=3:=by omega
  rw [<- bl]
  rcases hb with e | e | e <;> rw [e] <;> decide
namespace Lad
variable {B C D:Int} {l k:Lad}
theorem tms_self (hl:l.Ok B):tms l 1=l:=ext (tms_ok hl (by decide)) hl fun x=>by rw [S_tms]; omega
theorem bths_nil:bths []=.nil:=by
 show ofPs (jn (dsc []))=.nil
 have:dsc []=[]:=List.Perm.eq_nil (dsc_perm [])
 rw [this]; rfl
theorem bths_one (hl:l.Ok B) (hB:0<=B):bths [l]=l:=by
 refine ext (B:=B+1) (C:=B) (bths_ok (B:=B) (fun k hk=>by rw [List.mem_singleton.mp hk]; exact hl) hB (by omega) fun x=>?_) hl fun x=>?_
 ·have:=ok_pos hl hB x
  simp only [List.map_cons,List.map_nil,List.sum_cons,List.sum_nil]
  omega
 ·rw [Gr.S_bths]; simp
theorem sum_take_le (f:Lad->Int):∀ (ls:List Lad) (i:Nat),(∀ l ∈ ls,0<=f l)->0<=((ls.take i).map f).sum/\((ls.take i).map f).sum<=(ls.map f).sum
 | [],i,_=>by simp
 | l::r,0,h=>by
  obtain ⟨h1,h2⟩:=sum_take_le f r 0 fun x hx=>h x (mcm _ hx)
  have h3:=h l (mcs ..)
  simp only [List.take_zero,List.map_nil,List.sum_nil,List.map_cons,List.sum_cons] at h1 h2 ⊢
  omega
 | l::r,i+1,h=>by
  obtain ⟨h1,h2⟩:=sum_take_le f r i fun x hx=>h x (mcm _ hx)
  have h3:=h l (mcs ..)
  simp only [List.take_succ_cons,List.map_cons,List.sum_cons]
  omega
theorem sum_take_nat (f:Lad->Nat):∀ (ls:List Lad) (i:Nat),((ls.take i).map f).sum<=(ls.map f).sum
 | [],i=>by simp
 | l::r,0=>by simp
 | l::r,i+1=>by
  have:=sum_take_nat f r i
  simp only [List.take_succ_cons,List.map_cons,List.sum_cons]
  omega
end Lad
/-- all that a grove's ladders keep to -/
structure GL (b:Bk) (ρ:Str->Lad) (P:Nat) (g:Gr):Prop where
 fit:∀ ns,(∀ n ∈ b.names,EndK b n->n ∈ ns)->Gr.Fit b ρ ns g
 each:∀ l ∈ Gr.rkT b ρ g,l.Ok (2 ^ 1600)
 sum:∀ y,((Gr.rkT b ρ g).map fun l=>Lad.S l y).sum < 2 ^ 1600
 parts:((Gr.rkT b ρ g).map Lad.parts).sum<=P*g.parts
 deep:∀ l ∈ Gr.rkT b ρ g,l.deep<=12+g.deep
theorem GL.ok {b:Bk} {ρ:Str->Lad} {P:Nat} {g:Gr} (h:GL b ρ P g) (i:Nat):(Lad.bths ((Gr.rkT b ρ g).take i)).Ok (2 ^ 1600):=by
 have p0:=z0b 1600
 refine Lad.bths_ok (fun l hl=>h.each l (List.mem_of_mem_take hl)) (by omega) (Int.le_refl _) fun x=>?_
 have h1:=(Lad.sum_take_le (fun l=>Lad.S l x) (Gr.rkT b ρ g) i fun l hl=>Lad.S_nonneg (h.each l hl) x).2
 have h2:=h.sum x
 omega
theorem GL.pts {b:Bk} {ρ:Str->Lad} {P:Nat} {g:Gr} (h:GL b ρ P g) (i:Nat):(Lad.bths ((Gr.rkT b ρ g).take i)).parts<=P*g.parts :=
 Nat.le_trans (Nat.le_trans (Lad.bths_parts _) (Lad.sum_take_nat Lad.parts _ i)) h.parts
theorem GL.dp {b:Bk} {ρ:Str->Lad} {P:Nat} {g:Gr} (h:GL b ρ P g) (i:Nat):(Lad.bths ((Gr.rkT b ρ g).take i)).deep<=12+g.deep :=
 Lad.bths_deep fun l hl=>h.deep l (List.mem_of_mem_take hl)
def Ends (b:Bk) (g:Gr):Prop:=∀ x ∈ g.within,EndK b x.1.1
theorem Ends.at {b:Bk} {g:Gr} (h:Ends b g) {p:Tr × Int} (hp:p ∈ g.ps):EndK b p.1.1/\Ends b p.1.2:=by
 have hw:=Gr.within_ps g
 refine ⟨h p (by rw [hw]; exact List.mem_flatMap.mpr ⟨p,hp,mcs ..⟩),fun x hx=>h x (by rw [hw]; exact List.mem_flatMap.mpr ⟨p,hp,mcm _ hx⟩)⟩
theorem Named.at {ns:List Str} {g:Gr} (h:Gr.Named ns g) {p:Tr × Int} (hp:p ∈ g.ps):p.1.1 ∈ ns/\Gr.Named ns p.1.2:=by
 have hw:=Gr.within_ps g
 refine ⟨h p (by rw [hw]; exact List.mem_flatMap.mpr ⟨p,hp,mcs ..⟩),fun x hx=>h x (by rw [hw]; exact List.mem_flatMap.mpr ⟨p,hp,mcm _ hx⟩)⟩
theorem zbb {b:Bk} {ρ:Str->Lad} {g k:Gr} {B C D:Int} (hg:(Gr.rk b ρ g).Ok B) (hk:(Gr.rk b ρ k).Ok C) (hB:1<=B) (hC:1<=C) (hj:(Gr.rk b ρ (Gr.tidy (g.ps++k.ps))).Ok D):(Gr.rk b ρ (Gr.tidy (g.ps++k.ps)))=(Gr.rk b ρ g).bth (Gr.rk b ρ k):=by
 refine Lad.ext hj (Lad.bth_ok hg hk hB hC) fun x=>?_
 rw [Lad.S_bth,Gr.S_rk,Gr.S_rk,Gr.S_rk,<- z1g]
 refine z1k _ _ _ _ (Nat.le_refl _) fun t=>?_
 unfold Gr.tidy
 rw [Gr.ps_ofPs,z5s]
def zk (ns:List Str) (us:List V):List (Key × V):=List.zipWith (fun (n:Str) (u:V)=>((Sum.inr n:Key),u)) ns us
/-- at d stands a dict of the ladders ρ of ns,at us -/
structure RkU (K:PySem.W.Frag) (H:Hp) (d:Addr) (ρ:Str->Lad) (ns:List Str) (us:List V):Prop where
 at_:H d=some (.dK (zk ns us))
 lad:Bears K H Lad.enc us (ns.map ρ)
theorem RkU.sb {K:PySem.W.Frag} {H H':Hp} {d:Addr} {ρ:Str->Lad} {ns:List Str} {us:List V} {ps:List Addr} (h:RkU K H d ρ ns us) (s:SB ps H H') (hd:d ∉ ps):RkU K H' d ρ ns us:=⟨s.keep _ _ h.at_ hd,h.lad.sb s Lad.noList_enc⟩
theorem RkU.sb0 {K:PySem.W.Frag} {H H':Hp} {d:Addr} {ρ:Str->Lad} {ns:List Str} {us:List V} (h:RkU K H d ρ ns us) (s:SB [] H H'):RkU K H' d ρ ns us:=h.sb s nmn
theorem z4w:∀ {ns:List Str} {us:List V},us.length=ns.length->(zk ns us).map (·.1)=ns.map Sum.inr
 | [],[],_=>rfl
 | [],_::_,h=>by simp at h
 | _::_,[],h=>by simp at h
 | n::r,u::us,h=>by
  have:=z4w (ns:=r) (us:=us) (by simpa using h)
  show Sum.inr n::(zk r us).map (·.1)=_
  rw [this]; rfl
theorem zbj {ns:List Str} {us:List V} (h:us.length=ns.length):(zk ns us).length=ns.length:=by
 have:=congrArg List.length (z4w h)
 simpa using this
theorem Bears.ref {K:PySem.W.Frag} {H:Hp} {us:List V} {ls:List Lad} (h:Bears K H Lad.enc us ls):∀ u ∈ us,∃ a,u=.ref a:=fun u hu=>by
 obtain ⟨i,hi⟩:=List.getElem?_of_mem hu
 obtain ⟨l,_,hl⟩:=h.get hi
 obtain ⟨a,_,e,_⟩:=zcp hl
 exact ⟨a,e⟩
/-- ρ but l at n -/
def setL (ρ:Str->Lad) (n:Str) (l:Lad):Str->Lad:=fun m=>if m=n then l else ρ m
theorem z9p (x:V):∀ {ns:List Str} {us:List V} {i:Nat} {n:Str},us.length=ns.length->ns.Nodup->ns[i]?=some n->putK (zk ns us) (Sum.inr n) x=zk ns (us.set i x)
 | [],_,_,_,_,_,e=>by simp at e
 | m::r,[],_,_,h,_,_=>by simp at h
 | m::r,u::us,0,n,h,nd,e=>by
  obtain rfl:=Option.some.inj (show some m=some n from e)
  obtain ⟨h1,h2⟩:=List.nodup_cons.mp nd
  show putK ((Sum.inr m,u)::zk r us) (Sum.inr m) x=(Sum.inr m,x)::zk r us
  have hm:List.map (fun kv:Key × V=>if kv.1=Sum.inr m then (kv.1,x) else kv) (zk r us)=zk r us:=by
   refine (List.map_congr_left fun p hp=>?_).trans (List.map_id _)
   rw [if_neg fun z=>?_]; rfl
   have:p.1 ∈ (zk r us).map (·.1):=List.mem_map.mpr ⟨p,hp,rfl⟩
   rw [z4w (by simpa using h),z] at this
   obtain ⟨y,hy,e⟩:=List.mem_map.mp this
   exact h1 (by rw [<- Sum.inr.inj e]; exact hy)
  unfold putK
  simp [hm]
 | m::r,u::us,i+1,n,h,nd,e=>by
  obtain ⟨h1,h2⟩:=List.nodup_cons.mp nd
  have e':r[i]?=some n:=e
  have hne:m ≠ n:=fun z=>h1 (by rw [z]; exact List.mem_of_getElem? e')
  have ih:=z9p x (ns:=r) (us:=us) (i:=i) (n:=n) (by simpa using h) h2 e'
  show putK ((Sum.inr m,u)::zk r us) (Sum.inr n) x=(Sum.inr m,u)::zk r (us.set i x)
  rw [<- ih]
  unfold putK
  have hs:¬ ((Sum.inr m:Key)=Sum.inr n):=fun z=>hne (Sum.inr.inj z)
  have hd:decide ((Sum.inr m:Key)=Sum.inr n)=false:=decide_eq_false hs
  simp only [List.any_cons,hd,Bool.false_or,List.map_cons,if_neg hs]
  split <;> rfl
/-- worths[n]=x,n among the names -/
theorem RkU.set {K:PySem.W.Frag} {H:Hp} {d:Addr} {ρ:Str->Lad} {ns:List Str} {us:List V} {n:Str} {x:V} {l:Lad} (h:RkU K H d ρ ns us) (nd:ns.Nodup) (hl:ns.length<=1000) {i:Nat} (hn:ns[i]?=some n) (hx:LA K H x l):∃ H',DPut H d (.str n) x H'/\SB [d] H H'/\RkU K H' d (setL ρ n l) ns (us.set i x):=by
 have szl:=sizeLine_eq
 have ul:us.length=ns.length:=by rw [h.lad.length,List.length_map]
 have zl:=zbj ul
 have t:=SB.setD (ps:=[d]) h.at_ (by simp) (.dK (putK (zk ns us) (Sum.inr n) x))
 have e:=z9p x ul nd hn
 refine ⟨_,DPut.k (k:=Sum.inr n) h.at_ (by rw [zl]; omega),t,⟨by rw [upd_same,e],?_⟩⟩
 have hb:=(h.lad.sb t Lad.noList_enc).set (i:=i) (LA.sb hx t)
 have:ns.map (setL ρ n l)=(ns.map ρ).set i l:=by
  clear hb e t zl h ul
  induction ns generalizing i with
  | nil=>simp at hn
  | cons m r ih =>
   obtain ⟨h1,h2⟩:=List.nodup_cons.mp nd
   cases i with
   | zero =>
    obtain rfl:=Option.some.inj (show some m=some n from hn)
    simp only [List.map_cons,List.set_cons_zero]
    refine List.cons_eq_cons.mpr ⟨by simp [setL],List.map_congr_left fun y hy=>?_⟩
    unfold setL
    rw [if_neg fun z=>h1 (by rw [<- z]; exact hy)]
   | succ i =>
    have e':r[i]?=some n:=hn
    have hne:m ≠ n:=fun z=>h1 (by rw [z]; exact List.mem_of_getElem? e')
    simp only [List.map_cons,List.set_cons_succ]
    refine List.cons_eq_cons.mpr ⟨by simp [setL,hne],ih h2 (by simp at hl; omega) e'⟩
 rw [this]; exact hb
theorem RkU.put {K:PySem.W.Frag} {H:Hp} {d:Addr} {ρ:Str->Lad} {ns:List Str} {us:List V} {n:Str} {x:V} {l:Lad} (h:RkU K H d ρ ns us) (hn:n ∉ ns) (hl:ns.length<=1000) (hx:LA K H x l):∃ H',DPut H d (.str n) x H'/\SB [d] H H'/\RkU K H' d (setL ρ n l) (ns++[n]) (us++[x]):=by
 have szl:=sizeLine_eq
 have ul:us.length=ns.length:=by rw [h.lad.length,List.length_map]
 have zl:=zbj ul
 have t:=SB.setD (ps:=[d]) h.at_ (by simp) (.dK (putK (zk ns us) (Sum.inr n) x))
 have e:putK (zk ns us) (Sum.inr n) x=zk (ns++[n]) (us++[x]):=by
  rw [z1j fun p hp z=>?_]
  ·unfold zk
   rw [List.zipWith_append (by omega)]; rfl
  ·have:p.1 ∈ (zk ns us).map (·.1):=List.mem_map.mpr ⟨p,hp,rfl⟩
   rw [z4w ul,z] at this
   obtain ⟨m,hm,e⟩:=List.mem_map.mp this
   exact hn (by rw [<- Sum.inr.inj e]; exact hm)
 refine ⟨_,DPut.k (k:=Sum.inr n) h.at_ (by rw [zl]; omega),t,⟨by rw [upd_same,e],?_⟩⟩
 rw [List.map_append,show ns.map (setL ρ n l)=ns.map ρ from List.map_congr_left fun y hy=>by unfold setL; rw [if_neg fun z=>hn (by rw [<- z]; exact hy)]]
 exact (h.lad.sb t Lad.noList_enc).append (.cons (by show LA K _ x (setL ρ n l n); unfold setL; rw [if_pos rfl]; exact LA.sb hx t) .nil)
structure Wor (b:Bk) (ρ:Str->Lad) (P:Nat):Prop where
 each:∀ n ∈ b.names,ρ n ≠ .nil/\(ρ n).parts<=P/\(ρ n).deep<=12/\(ρ n).Ok (2 ^ 340)
/-- what fault tells -/
def FV (K:PySem.W.Frag) (H:Hp) (x:V):Option (Str × Nat)->Prop
 | none=>x=.non
 | some (n,i)=>∃ t,x=.ref t/\SqT K H t [.str n,.int (i:Int)]
theorem FV.sb {K:PySem.W.Frag} {H H':Hp} {x:V} {o:Option (Str × Nat)} {ps:List Addr} (h:FV K H x o) (s:SB ps H H'):FV K H' x o:=by
 cases o with
 | none=>exact h
 | some p =>
  obtain ⟨n,i⟩:=p
  obtain ⟨t,e,ht⟩:=h
  exact ⟨t,e,s.sqT ht⟩
/-- without roundabouts each kind ends -/
theorem Kinds40.ends {b:Bk} (ok:b.Ok) {ks:List Str} (h:Kinds40 ks false b) (nd:ks.Nodup):∀ n ∈ b.names,EndK b n:=by
 have key:∀ (i:Nat) (n:Str),ks[i]?=some n->EndK b n:=by
  intro i
  induction i using Nat.strongRecOn with
  | ind i ih =>
   intro n en
   refine .mk fun m hm=>?_
   have hn:n ∈ b.names:=h.names.mem_iff.mpr (List.mem_of_getElem? en)
   obtain ⟨k,eg⟩:=Bk.get_of hn
   obtain ⟨hk,rfl⟩:=Bk.get_some eg
   rw [z10 ok hk] at hm
   obtain ⟨r,hr,hm⟩:=List.mem_flatMap.mp hm
   obtain ⟨x,hx,rfl⟩:=List.mem_map.mp hm
   obtain ⟨n1,n2⟩:=h.early rfl k hk i en r hr
   have hx2:x.1.1 ∈ ks.take i:=by
    rcases List.mem_append.mp hx with hx | hx
    ·exact n1 x hx
    ·exact n2 x hx
   obtain ⟨j,hj⟩:=List.getElem?_of_mem hx2
   rw [List.getElem?_take] at hj
   split at hj
   ·rename_i hlt
    exact ih j hlt _ hj
   ·cases hj
 intro n hn
 obtain ⟨i,hi⟩:=List.getElem?_of_mem (h.names.mem_iff.mp hn)
 exact key i n hi
/-- what a worth may be,ahead of being raised -/
structure Wp (l:Lad):Prop where
 ne:l ≠ .nil
 parts:l.parts<=126
 deep:l.deep<=12
 ok:l.Ok (2 ^ 330)
theorem Wor.set {b:Bk} {ρ:Str->Lad} (h:Wor b ρ 126) {n:Str} {l:Lad} (h1:l ≠ .nil) (h2:l.parts<=126) (h3:l.deep<=12) (h4:l.Ok (2 ^ 340)):Wor b (setL ρ n l) 126:=⟨fun m hm=>by
 unfold setL
 by_cases e:m=n
 ·rw [if_pos e]; exact ⟨h1,h2,h3,h4⟩
 ·rw [if_neg e]; exact h.each m hm⟩
theorem Wp.set {ns:List Str} {ρ:Str->Lad} (h:∀ m ∈ ns,Wp (ρ m)) {n:Str} {l:Lad} (hl:Wp l):∀ m ∈ ns++[n],Wp (setL ρ n l m):=fun m hm=>by
 unfold setL
 by_cases e:m=n
 ·rw [if_pos e]; exact hl
 ·rw [if_neg e]
  rcases List.mem_append.mp hm with hm | hm
  ·exact h m hm
  ·exact absurd (List.mem_singleton.mp hm) e
namespace Lad
/-- a right ladder,of any numbers -/
def R (l:Lad):Prop:=∃ B:Int,1<=B/\l.Ok B
variable {a b c d l k o:Lad} {m n:Int} {w:Bool}
theorem R.nil:R .nil:=⟨1,by decide,trivial⟩
theorem R.bth (h:R l) (g:R k):R (l.bth k):=by
 obtain ⟨B,hB,h⟩:=h
 obtain ⟨C,hC,g⟩:=g
 exact ⟨B+C,by omega,bth_ok h g hB hC⟩
theorem R.bhd (h:R l) (g:R k):R (l.bhd k):=by
 obtain ⟨B,hB,h⟩:=h
 obtain ⟨C,hC,g⟩:=g
 exact ⟨B+C,by omega,bhd_ok h g hB hC⟩
theorem R.tms (h:R l) (hm:0<=m):R (l.tms m):=by
 obtain ⟨B,hB,h⟩:=h
 have:=Int.mul_nonneg (show 0<=B by omega) hm
 exact ⟨B*m+B,by omega,tms_ok h hm⟩
theorem R.abv (h:R l) (g:R k):R (l.abv k):=by
 obtain ⟨B,hB,h⟩:=h
 obtain ⟨C,hC,g⟩:=g
 exact ⟨B+(C+2),by omega,abv_ok h g hB hC⟩
theorem R.lad (h:R o) (g:R l):R (lad w o l):=by
 obtain ⟨B,hB,h⟩:=h
 obtain ⟨C,hC,g⟩:=g
 exact ⟨B+C,by omega,lad_ok h g hB hC⟩
theorem R.uno:R uno:=⟨2,by decide,uno_ok⟩
theorem R.ext (h:R l) (g:R k) (e:∀ x,S l x=S k x):l=k:=by
 obtain ⟨B,hB,h⟩:=h
 obtain ⟨C,hC,g⟩:=g
 exact Lad.ext h g e
theorem R.lt_iff (h:R l) (g:R k):l.lt k=true ↔ LT' l k:=by
 obtain ⟨B,hB,h⟩:=h
 obtain ⟨C,hC,g⟩:=g
 exact Lad.lt_iff h g
theorem R.common:∀ {ls:List Lad},(∀ l ∈ ls,R l)->∃ B:Int,1<=B/\∀ l ∈ ls,l.Ok B
 | [],_=>⟨1,by decide,fun l h=>nomatch h⟩
 | x::r,h=>by
  obtain ⟨B,hB,hx⟩:=h x (mcs ..)
  obtain ⟨C,hC,hr⟩:=R.common (ls:=r) fun l hl=>h l (mcm _ hl)
  refine ⟨B+C,by omega,fun l hl=>?_⟩
  rcases List.mem_cons.mp hl with e | e
  ·rw [e]; exact hx.mono (by omega)
  ·exact (hr l e).mono (by omega)
theorem sum_len_le {B:Int} (hB:0<=B) (x:Lad):∀ {ls:List Lad},(∀ l ∈ ls,l.Ok B)->(ls.map fun l=>S l x).sum<=ls.length*B
 | [],_=>by simp
 | y::r,h=>by
  have h1:=ok_pos (h y (mcs ..)) hB x
  have h2:=sum_len_le hB x (ls:=r) fun l hl=>h l (mcm _ hl)
  rw [List.map_cons,List.sum_cons,List.length_cons]
  have:((r.length+1:Nat):Int)*B=r.length*B+B:=by rw [Int.natCast_add,Int.add_mul]; simp
  omega
theorem R.bths {ls:List Lad} (h:∀ l ∈ ls,R l):R (bths ls):=by
 obtain ⟨B,hB,hb⟩:=R.common h
 have hl:(0:Int)<=ls.length*B:=Int.mul_nonneg (Int.natCast_nonneg _) (by omega)
 exact ⟨ls.length*B+B+1,by omega,bths_ok hb (by omega) (by omega) fun x=>by have:=sum_len_le (by omega) x hb; omega⟩
theorem bths_cons {ls:List Lad} (hl:R l) (h:∀ k ∈ ls,R k):Lad.bths (l::ls)=l.bth (Lad.bths ls):=by
 refine R.ext (R.bths fun k hk=>?_) (hl.bth (R.bths h)) fun x=>?_
 ·rcases List.mem_cons.mp hk with e | e
  ·rw [e]; exact hl
  ·exact h k e
 ·rw [Gr.S_bths,S_bth,Gr.S_bths,List.map_cons,List.sum_cons]
/-- no greater -/
def Le (a b:Lad):Prop:=b.lt a=false
theorem Le.refl:Le a a:=lt_irrefl a
theorem Le.trans (h:Le a b) (g:Le b c):Le a c:=le_trans h g
theorem Le.of_lt (h:a.lt b=true):Le a b:=le_of_lt h
theorem Le.nil:Le .nil a:=lt_nil_r a
theorem Le.cases (h:Le a b):a=b\/a.lt b=true:=by
 by_cases e:a=b
 ·exact .inl e
 ·exact .inr (lt_tri b a (fun z=>e z.symm) h)
theorem Le.lt (h:Le a b) (g:b.lt c=true):a.lt c=true:=by
 rcases h.cases with e | e
 ·rw [e]; exact g
 ·exact lt_trans _ _ _ e g
theorem lt_le (g:a.lt b=true) (h:Le b c):a.lt c=true:=by
 rcases h.cases with e | e
 ·rw [<- e]; exact g
 ·exact lt_trans _ _ _ g e
theorem bth_lt (ra:R a) (rb:R b) (rc:R c) (h:b.lt c=true):(a.bth b).lt (a.bth c)=true:=by
 obtain ⟨A,hA,ra⟩:=ra
 obtain ⟨B,hB,rb⟩:=rb
 obtain ⟨C,hC,rc⟩:=rc
 exact bth_mono ra rb rc hA hB hC h
theorem Le.bth (ra:R a) (rb:R b) (rc:R c) (rd:R d) (h:Le a b) (g:Le c d):Le (a.bth c) (b.bth d):=by
 refine Le.trans (b:=a.bth d) ?_ ?_
 ·rcases g.cases with e | e
  ·rw [e]; exact Le.refl
  ·exact Le.of_lt (bth_lt ra rc rd e)
 ·rw [bth_comm a d,bth_comm b d]
  rcases h.cases with e | e
  ·rw [e]; exact Le.refl
  ·exact Le.of_lt (bth_lt rd ra rb e)
theorem tms_lt (ra:R a) (rb:R b) (hm:1<=m) (h:a.lt b=true):(a.tms m).lt (b.tms m)=true:=by
 obtain ⟨x,h1,h2⟩:=(ra.lt_iff rb).mp h
 refine ((ra.tms (by omega)).lt_iff (rb.tms (by omega))).mpr ⟨x,?_,fun y hy=>?_⟩
 ·rw [S_tms,S_tms]; exact Int.mul_lt_mul_of_pos_right h1 (by omega)
 ·rw [S_tms,S_tms,h2 y hy]
theorem tms_zero:tms l 0=.nil:=by simp [tms]
theorem Le.tms (ra:R a) (rb:R b) (hm:0<=m) (h:Le a b):Le (a.tms m) (b.tms m):=by
 by_cases m0:m=0
 ·rw [m0,tms_zero]; exact Le.nil
 rcases h.cases with e | e
 ·rw [e]; exact Le.refl
 ·exact Le.of_lt (tms_lt ra rb (by omega) e)
theorem le_bth (ra:R a) (rb:R b):Le a (a.bth b):=by
 obtain ⟨A,hA,ra⟩:=ra
 obtain ⟨B,hB,rb⟩:=rb
 exact Le.trans (bhd_ge ra rb hA hB) (bth_ge_bhd ra rb hA hB)
theorem tms_le (r:R l) (h0:0<=m) (h:m<=n):Le (l.tms m) (l.tms n):=by
 have e:l.tms n=(l.tms m).bth (l.tms (n-m)):=by
  refine R.ext (r.tms (by omega)) ((r.tms h0).bth (r.tms (by omega))) fun x=>?_
  rw [S_bth,S_tms,S_tms,S_tms,Int.mul_sub]; omega
 rw [e]
 exact le_bth (r.tms h0) (r.tms (by omega))
theorem le_tms (r:R l) (h:1<=m):Le l (l.tms m):=by
 have h1:=tms_le r (show (0:Int)<=1 by decide) h
 obtain ⟨B,_,r⟩:=r
 rwa [tms_self r] at h1
/-- an exponent is less than its ladder -/
theorem exp_lt:∀ {e:Lad} {m:Int} {r:Lad},e.lt (.cons e m r)=true
 | .nil,m,r=>lt_nil_cons _ _ _
 | .cons e2 m2 r2,m,r=>by
  have h:=exp_lt (e:=e2) (m:=m2) (r:=r2)
  rw [lt_cons,if_neg (lt_ne h)]
  exact h
theorem bhd_lt (ra:R a) (rb:R b) (rc:R c) (h:b.lt c=true):(a.bhd b).lt (a.bhd c)=true:=by
 obtain ⟨A,hA,ra⟩:=ra
 obtain ⟨B,hB,rb⟩:=rb
 obtain ⟨C,hC,rc⟩:=rc
 exact bhd_mono ra rb rc hA hB hC h
theorem Le.bhd1 (ra:R a) (rb:R b) (rc:R c) (h:Le b c):Le (b.bhd a) (c.bhd a):=by
 rcases h.cases with e | e
 ·rw [e]; exact Le.refl
 obtain ⟨A,hA,ra⟩:=ra
 obtain ⟨B,hB,rb⟩:=rb
 obtain ⟨C,hC,rc⟩:=rc
 exact bhd_first ra rb rc hA hB hC e
theorem le_bhd2 (ra:R a) (rb:R b):Le b (a.bhd b):=by
 have h:=Le.bhd1 rb R.nil ra Le.nil
 rwa [nil_bhd] at h
theorem le_bhd1 (ra:R a) (rb:R b):Le a (a.bhd b):=by
 obtain ⟨A,hA,ra⟩:=ra
 obtain ⟨B,hB,rb⟩:=rb
 exact bhd_ge ra rb hA hB
theorem R.exp {e:Lad} {m:Int} {r:Lad} (h:R (.cons e m r)):R e:=by
 obtain ⟨B,hB,h⟩:=h
 exact ⟨B,hB,h.1⟩
theorem exp_grows (re:R a) (rl:R l) (h:l ≠ .nil):a.lt (a.bhd l)=true:=by
 have h1:=bhd_lt re R.nil rl (nil_le l h)
 rwa [bhd_nil] at h1
theorem top_lt {e e2:Lad} {m m2:Int} {r r2:Lad} (h:e.lt e2=true):Lad.lt (.cons e m r) (.cons e2 m2 r2)=true:=by
 rw [lt_cons,if_neg (lt_ne h)]; exact h
theorem spd_cons {e:Lad} {m:Int} {r:Lad} (h:l ≠ .nil):spd (.cons e m r) l=.cons (e.bhd l) 1 .nil:=by
 cases l with
 | nil=>exact absurd rfl h
 | cons _ _ _=>rfl
theorem lad_lt (ro:R o) (rl:R l) (rk:R k) (ho:o ≠ .nil) (h:l.lt k=true):(lad w o l).lt (lad w o k)=true:=by
 cases w with
 | false=>exact bhd_lt ro rl rk h
 | true =>
  show (spd o l).lt (spd o k)=true
  have hk:k ≠ .nil:=fun z=>by rw [z,lt_nil_r] at h; cases h
  cases o with
  | nil=>exact absurd rfl ho
  | cons e m r =>
   rw [spd_cons hk]
   by_cases hl:l=.nil
   ·rw [hl]
    show Lad.lt (.cons e m r) _=true
    exact top_lt (exp_grows ro.exp rk hk)
   ·rw [spd_cons hl]
    exact top_lt (bhd_lt ro.exp rl rk h)
theorem le_lad1 (ro:R o) (rl:R l) (ho:o ≠ .nil):Le o (lad w o l):=by
 cases w with
 | false=>exact le_bhd1 ro rl
 | true =>
  show Le o (spd o l)
  cases o with
  | nil=>exact absurd rfl ho
  | cons e m r =>
   by_cases hl:l=.nil
   ·rw [hl]; exact Le.refl
   ·rw [spd_cons hl]; exact Le.of_lt (top_lt (exp_grows ro.exp rl hl))
theorem le_lad2 (ro:R o) (rl:R l) (ho:o ≠ .nil):Le l (lad w o l):=by
 cases w with
 | false=>exact le_bhd2 ro rl
 | true =>
  show Le l (spd o l)
  cases o with
  | nil=>exact absurd rfl ho
  | cons e m r =>
   cases l with
   | nil=>exact Le.nil
   | cons e1 m1 r1 =>
    rw [spd_cons (by simp)]
    exact Le.of_lt (top_lt (lt_le exp_lt (le_bhd2 ro.exp rl)))
theorem Le.lad (ro:R o) (ra:R a) (rl:R l) (rk:R k) (ho:o ≠ .nil) (ha:a ≠ .nil) (h:Le o a) (g:Le l k):Le (lad w o l) (lad w a k):=by
 refine Le.trans (b:=FT.lad w o k) ?_ ?_
 ·rcases g.cases with e | e
  ·rw [e]; exact Le.refl
  ·exact Le.of_lt (lad_lt ro rl rk ho e)
 ·cases w with
  | false=>exact Le.bhd1 rk ro ra h
  | true =>
   show Le (spd o k) (spd a k)
   cases o with
   | nil=>exact absurd rfl ho
   | cons e m r =>
    cases a with
    | nil=>exact absurd rfl ha
    | cons e2 m2 r2 =>
     by_cases hk:k=.nil
     ·rw [hk]; exact h
     ·rw [spd_cons hk,spd_cons hk]
      have he:Le e e2:=by
       unfold Le at h ⊢
       rw [lt_cons] at h
       split at h
       ·rename_i e0; rw [e0]; exact lt_irrefl _
       ·exact h
      rcases (Le.bhd1 rk ro.exp ra.exp he).cases with e0 | e0
      ·rw [e0]; exact Le.refl
      ·exact Le.of_lt (top_lt e0)
theorem above_gt (rl:R l) (rk:R k) (hn:0<=n):(l.bth (k.tms n)).lt (l.abv k)=true:=by
 obtain ⟨B,hB,rl⟩:=rl
 obtain ⟨C,hC,rk⟩:=rk
 exact abv_gt rl rk hB hC hn
theorem above_least (rl:R l) (rk:R k) (ra:R a) (h:a.lt (l.abv k)=true) (hn:eno k a<=n):Le a (l.bth (k.tms n)):=by
 obtain ⟨A,hA,ra'⟩:=ra
 have e0:=eno_nonneg (k:=k) ra'
 have rl':=rl
 have rk':=rk
 obtain ⟨B,hB,rl⟩:=rl
 obtain ⟨C,hC,rk⟩:=rk
 have h1:Le a (l.bth (k.tms (eno k a))):=abv_least rl rk ra' hB hC h
 exact h1.trans (Le.bth rl' rl' (rk'.tms e0) (rk'.tms (by omega)) Le.refl (tms_le rk' e0 hn))
theorem Le.abv (rl:R l) (ra:R a) (rk:R k) (rb:R b) (h:Le l a) (g:Le k b):Le (l.abv k) (a.abv b):=by
 cases e:(a.abv b).lt (l.abv k) with
 | false=>exact e
 | true =>
  exfalso
  have e0:0<=eno k (a.abv b):=by
   obtain ⟨A,hA,x⟩:=ra.abv rb
   exact eno_nonneg x
  have h1:=above_least rl rk (ra.abv rb) e (Int.le_refl _)
  have h2:=Le.bth rl ra (rk.tms e0) (rb.tms e0) h (Le.tms rk rb e0 g)
  have h3:=(h1.trans h2).lt (above_gt ra rb e0)
  rw [lt_irrefl] at h3; cases h3
theorem abv_left (rl:R l) (rk:R k):l.lt (l.abv k)=true:=by
 have h:=above_gt rl rk (show (0:Int)<=0 by decide)
 obtain ⟨B,hB,rl⟩:=rl
 rwa [tms_zero,bth_nil rl] at h
theorem abv_right (rl:R l) (rk:R k):k.lt (l.abv k)=true:=by
 have h:=above_gt rl rk (show (0:Int)<=1 by decide)
 have h1:=le_bth rk rl
 obtain ⟨C,hC,rk⟩:=rk
 rw [tms_self rk] at h
 rw [bth_comm] at h1
 exact h1.lt h
theorem uno_le (rl:R l) (h:l ≠ .nil):Le uno l:=by
 cases l with
 | nil=>exact absurd rfl h
 | cons e m r =>
  show Lad.lt (.cons e m r) (.cons .nil 1 .nil)=false
  obtain ⟨B,hB,h1,h2,_⟩:=rl
  rw [lt_cons]
  split
  ·split
   ·exact lt_nil_r _
   ·exact decide_eq_false (by omega)
  ·exact lt_nil_r _
end Lad
namespace Gr
variable {b:Bk} {ρ σ:Str->Lad} {C:Int}
/-- the ladders of the kinds of a grove are right ones -/
def RN (ρ:Str->Lad) (g:Gr):Prop:=∀ x ∈ g.within,Lad.R (ρ x.1.1)/\ρ x.1.1 ≠ .nil
theorem RN.cons {k:Str} {g r:Gr} {m:Int} (h:RN ρ (.cons k g m r)):(Lad.R (ρ k)/\ρ k ≠ .nil)/\RN ρ g/\RN ρ r :=
 ⟨h ((k,g),m) (mcs ..),fun x hx=>h x (mcm _ (mal _ hx)),fun x hx=>h x (mcm _ (mar _ hx))⟩
theorem rkT_R:∀ {g:Gr},g.Ok C->RN ρ g->∀ l ∈ rkT b ρ g,Lad.R l
 | .nil,_,_,l,hl=>nomatch hl
 | .cons k g m r,ho,h,l,hl=>by
  obtain ⟨h1,h2,h3⟩:=h.cons
  obtain ⟨o1,o2,o3,o4,o5,_⟩:=ho
  rcases List.mem_cons.mp hl with e | e
  ·rw [e]; exact (h1.1.lad (Lad.R.bths (rkT_R o2 h2))).tms (by omega)
  ·exact rkT_R o5 h3 l e
theorem rk_R {g:Gr} (ho:g.Ok C) (h:RN ρ g):Lad.R (rk b ρ g):=Lad.R.bths (rkT_R ho h)
theorem rk_cons {k:Str} {g r:Gr} {m:Int} (ho:(Gr.cons k g m r).Ok C) (h:RN ρ (.cons k g m r)):rk b ρ (.cons k g m r)=(Lad.tms (rkt b ρ (k,g)) m).bth (rk b ρ r):=by
 obtain ⟨h1,h2,h3⟩:=h.cons
 obtain ⟨o1,o2,o3,o4,o5,_⟩:=ho
 exact Lad.bths_cons ((h1.1.lad (rk_R o2 h2)).tms (by omega)) (rkT_R o5 h3)
theorem rk_ge:∀ {g:Gr},g.Ok C->RN ρ g->∀ x ∈ g.within,Lad.Le (ρ x.1.1) (rk b ρ g)
 | .nil,_,_,x,hx=>nomatch hx
 | .cons k g m r,ho,h,x,hx=>by
  rw [rk_cons ho h]
  obtain ⟨h1,h2,h3⟩:=h.cons
  obtain ⟨o1,o2,o3,o4,o5,_⟩:=ho
  have rg:=rk_R (b:=b) o2 h2
  have rr:=rk_R (b:=b) o5 h3
  have q1:=h1.1.lad (w:=b.wide k) rg
  have t1:=q1.tms (m:=m) (by omega)
  have low:Lad.Le (rkt b ρ (k,g)) ((Lad.tms (rkt b ρ (k,g)) m).bth (rk b ρ r)):=(Lad.le_tms q1 o3).trans (Lad.le_bth t1 rr)
  rcases List.mem_cons.mp hx with e | e
  ·rw [e]; exact (Lad.le_lad1 h1.1 rg h1.2).trans low
  ·rcases List.mem_append.mp e with e | e
   ·exact ((rk_ge o2 h2 x e).trans (Lad.le_lad2 h1.1 rg h1.2)).trans low
   ·refine (rk_ge o5 h3 x e).trans ?_
    rw [Lad.bth_comm]
    exact Lad.le_bth rr t1
theorem rk_tmsG {g:Gr} {m:Int} (hm:0<=m) (hg:Lad.R (rk b ρ g)) (hk:Lad.R (rk b ρ (tmsG g m))):rk b ρ (tmsG g m)=Lad.tms (rk b ρ g) m:=by
 refine Lad.R.ext hk (hg.tms hm) fun x=>?_
 rw [S_rk,Lad.S_tms,S_rk]
 by_cases h0:m=0
 ·subst h0; simp [tmsG,Gr.ps,wsum]
 ·rw [tmsG,if_neg h0,ps_ofPs,wsum_tms]
theorem rk_tgtG {g k:Gr} (hg:Lad.R (rk b ρ g)) (hk:Lad.R (rk b ρ k)) (hj:Lad.R (rk b ρ (tgt g k))):rk b ρ (tgt g k)=(rk b ρ g).bth (rk b ρ k):=by
 obtain ⟨B,hB,hg⟩:=hg
 obtain ⟨C,hC,hk⟩:=hk
 obtain ⟨D,hD,hj⟩:=hj
 exact zbb hg hk hB hC hj
theorem RN.named {ns:List Str} {g:Gr} (h:∀ n ∈ ns,Lad.R (ρ n)/\ρ n ≠ .nil) (hn:Named ns g):RN ρ g:=fun x hx=>h _ (hn x hx)
/-- a rule's groves,grown: their ladder -/
theorem rk_grw {r:Ru} {n:Int} {ns:List Str} (rok:RuOk r) (hn:0<=n) (h:∀ n ∈ ns,Lad.R (ρ n)/\ρ n ≠ .nil) (h1:Named ns r.1) (h2:Named ns r.2):rk b ρ (grw r n)=(rk b ρ r.1).bth (Lad.tms (rk b ρ r.2) n):=by
 obtain ⟨o1,o2,_⟩:=rok
 have r1:=rk_R (b:=b) o1 (RN.named h h1)
 have r2:=rk_R (b:=b) o2 (RN.named h h2)
 have ot:=tms_ok o2 (by decide) hn
 have nt:=named_tms h2 n
 have rt:=rk_R (b:=b) ot (RN.named h nt)
 have z:=Int.mul_nonneg (show (0:Int)<=1000000001 by decide) hn
 have rj:=rk_R (b:=b) (tgt_ok2 o1 ot (by decide) (by omega)) (RN.named h (named_tgt h1 nt))
 unfold grw
 rw [rk_tgtG r1 rt rj,rk_tmsG hn r2 rt]
end Gr
/-- a kind that stands in a rule has a lesser ladder than the rule -/
theorem zgp {b:Bk} {ρ:Str->Lad} {ns:List Str} {r:Ru} (rok:RuOk r) (h:∀ n ∈ ns,Lad.R (ρ n)/\ρ n ≠ .nil) (h1:Gr.Named ns r.1) (h2:Gr.Named ns r.2) {x:Tr × Int} (hx:x ∈ Ru.within r):(ρ x.1.1).lt (clm b ρ r)=true:=by
 have r1:=Gr.rk_R (b:=b) rok.1 (Gr.RN.named h h1)
 have r2:=Gr.rk_R (b:=b) rok.2.1 (Gr.RN.named h h2)
 rcases List.mem_append.mp hx with e | e
 ·exact (Gr.rk_ge rok.1 (Gr.RN.named h h1) x e).lt (Lad.abv_left r1 r2)
 ·exact (Gr.rk_ge rok.2.1 (Gr.RN.named h h2) x e).lt (Lad.abv_right r1 r2)
/-- no rule asks for more than its kind has -/
def NoF (b:Bk) (ρ:Str->Lad):Prop:=∀ k ∈ b,∀ r ∈ k.rs,(ρ k.n).lt (clm b ρ r)=false
def RB (b:Bk) (ρ:Str->Lad):Prop:=∀ n ∈ b.names,Lad.R (ρ n)/\ρ n ≠ .nil
theorem Bk.Ok.named {b:Bk} (ok:b.Ok) {k:Kd} (hk:k ∈ b) {r:Ru} (hr:r ∈ k.rs):RuOk r/\Gr.Named b.names r.1/\Gr.Named b.names r.2:=by
 obtain ⟨h1,h2⟩:=(ok.kd k hk).2.2 r hr
 exact ⟨h1,fun x hx=>h2 x (mal _ hx),fun x hx=>h2 x (mar _ hx)⟩
theorem NoF.down {b:Bk} {ρ:Str->Lad} (h:NoF b ρ) (ok:b.Ok) (hR:RB b ρ) {n m:Str} (hm:m ∈ adj b n):(ρ m).lt (ρ n)=true:=by
 unfold FT.adj at hm
 cases eg:b.get n with
 | none=>rw [eg] at hm; cases hm
 | some k =>
  rw [eg] at hm
  obtain ⟨hk,rfl⟩:=Bk.get_some eg
  obtain ⟨r,hr,hm⟩:=List.mem_flatMap.mp hm
  obtain ⟨x,hx,rfl⟩:=List.mem_map.mp hm
  obtain ⟨rok,n1,n2⟩:=ok.named hk hr
  exact Lad.lt_le (zgp rok hR n1 n2 hx) (h k hk r hr)
theorem NoF.rch {b:Bk} {ρ:Str->Lad} (h:NoF b ρ) (ok:b.Ok) (hR:RB b ρ) {n m:Str} (hm:Rch b n m):(ρ m).lt (ρ n)=true:=by
 induction hm with
 | one e=>exact h.down ok hR e
 | step _ e ih=>exact Lad.lt_trans _ _ _ (h.down ok hR e) ih
theorem NoF.ends {b:Bk} {ρ:Str->Lad} (h:NoF b ρ) (ok:b.Ok) (hR:RB b ρ):∀ n ∈ b.names,EndK b n:=fun n hn=>by
 refine Classical.byContradiction fun z=>?_
 obtain ⟨r,hr,_⟩:=zfm ok hn z
 have:=h.rch ok hR hr
 rw [Lad.lt_irrefl] at this; cases this
theorem NoF.own {b:Bk} {ρ:Str->Lad} (ok:b.Ok) (h:∀ n ∈ b.names,EndK b n/\ρ n=z0e b n):NoF b ρ:=fun k hk r hr=>by
 have hn:k.n ∈ b.names:=List.mem_map.mpr ⟨k,hk,rfl⟩
 obtain ⟨_,n1,n2⟩:=ok.named hk hr
 rw [(h _ hn).2,z68 ok hk (h _ hn).1]
 refine Lad.maxL_ge _ _ _ (mcm _ (List.mem_map.mpr ⟨r,hr,?_⟩))
 refine z7m fun x hx=>?_
 rcases List.mem_append.mp hx with e | e
 ·exact (h _ (n1 x e)).2.symm
 ·exact (h _ (n2 x e)).2.symm
namespace Gr
variable {b:Bk} {ρ σ:Str->Lad} {C:Int} {ns:List Str}
theorem rk_numsX {x:Nat} (hk:∀ n ∈ ns,(ρ n).Ok (2 ^ x)):∀ {g:Gr},Named ns g->g.Ok (2 ^ 119)->(∀ l ∈ rkT b ρ g,l.Ok (2 ^ (x+121*g.parts)))/\∀ y,((rkT b ρ g).map fun l=>Lad.S l y).sum < 2 ^ (x+121*g.parts)
 | .nil,_,_=>And.intro (fun l hl=>nomatch hl) (fun y=>by
  show (0:Int) < _
  have:=z0b (x+121*Gr.nil.parts); omega)
 | .cons k g m r,h,ho=>by
  obtain ⟨_,hg,hm1,hm2,hr,_⟩:=ho
  have hkn:k ∈ ns:=h ((k,g),m) (mcs ..)
  obtain ⟨g1,g2⟩:=rk_numsX hk (g:=g) (fun x hx=>h x (mcm _ (mal _ hx))) hg
  obtain ⟨r1,r2⟩:=rk_numsX hk (g:=r) (fun x hx=>h x (mcm _ (mar _ hx))) hr
  have e1:(Gr.cons k g m r).parts=1+g.parts+r.parts:=rfl
  have p0:=z0b (x+121*g.parts)
  have px:=z0b x
  have io:(Lad.bths (rkT b ρ g)).Ok (2 ^ (x+121*g.parts)):=Lad.bths_ok g1 (by omega) (Int.le_refl _) g2
  have lo:=Lad.lad_ok (w:=b.wide k) (hk k hkn) io px p0
  have m1:=z0j (show x<=x+121*g.parts by omega)
  have lo2:(lad (b.wide k) (ρ k) (Lad.bths (rkT b ρ g))).Ok (2 ^ (x+121*g.parts+1)):=lo.mono (by rw [z19]; omega)
  have to:=Lad.tms_ok lo2 (show 0<=m by omega)
  have q0:=z0b (x+121*g.parts+1)
  have hb:2 ^ (x+121*g.parts+1)*m+2 ^ (x+121*g.parts+1)<=2 ^ (x+121*g.parts+120):=by
   have:(2:Int) ^ (x+121*g.parts+120)=2 ^ (x+121*g.parts+1)*2 ^ 119:=by rw [<- Int.pow_add]
   rw [this]
   have h2:(2:Int) ^ (x+121*g.parts+1)*(m+1)<=2 ^ (x+121*g.parts+1)*2 ^ 119:=Int.mul_le_mul_of_nonneg_left (by omega) (by omega)
   rw [Int.mul_add,Int.mul_one] at h2
   exact h2
  have to2:=to.mono hb
  have w1:=z0j (show x+121*g.parts+120<=x+121*(1+g.parts+r.parts)-1 by omega)
  have w2:=z0j (show x+121*r.parts<=x+121*(1+g.parts+r.parts)-1 by omega)
  have w3:=z19 (x+121*(1+g.parts+r.parts)-1)
  rw [show x+121*(1+g.parts+r.parts)-1+1=x+121*(1+g.parts+r.parts) by omega] at w3
  have w0:=z0b (x+121*(1+g.parts+r.parts)-1)
  rw [e1]
  refine ⟨fun l hl=>?_,fun y=>?_⟩
  ·rcases List.mem_cons.mp hl with rfl | hl
   ·exact to2.mono (by omega)
   ·exact (r1 l hl).mono (by omega)
  ·show Lad.S (Lad.tms (lad (b.wide k) (ρ k) (Lad.bths (rkT b ρ g))) m) y+((rkT b ρ r).map fun l=>Lad.S l y).sum < _
   have s2:=r2 y
   have s3:Lad.S (Lad.tms (lad (b.wide k) (ρ k) (Lad.bths (rkT b ρ g))) m) y < 2 ^ (x+121*g.parts+120)\/Lad.S (Lad.tms (lad (b.wide k) (ρ k) (Lad.bths (rkT b ρ g))) m) y<=0:=by
    rcases Lad.S_cases to2 y with ⟨h1,_⟩ | ⟨mm,_,h2,_,h4⟩
    ·right; omega
    ·left; omega
   have w4:=z0b (x+121*g.parts+120)
   rcases s3 with s3 | s3 <;> omega
theorem rk_fitX {P D x:Nat} (hk:∀ n ∈ ns,n ∈ b.names/\ρ n ≠ .nil/\(ρ n).parts<=P/\(ρ n).deep<=D/\(ρ n).Ok (2 ^ x)) (hP:1<=P):∀ {g:Gr},Named ns g->g.Ok (2 ^ 119)->P*g.parts<=890->D+g.deep<=24->x+121*g.parts<=2000->Fit b ρ ns g
 | .nil,_,_,_,_,_=>trivial
 | .cons k g m r,h,ho,hp,hd,hx=>by
  have hP':∀ n ∈ ns,(ρ n).parts<=P/\(ρ n).deep<=D:=fun n hn=>⟨(hk n hn).2.2.1,(hk n hn).2.2.2.1⟩
  have hX':∀ n ∈ ns,(ρ n).Ok (2 ^ x):=fun n hn=>(hk n hn).2.2.2.2
  have nm:2 ^ 119<=(2:Int) ^ 2000:=z0j (by decide)
  obtain ⟨hkn,hnn⟩:k ∈ ns/\(Named ns g/\Named ns r):=⟨h ((k,g),m) (mcs ..),fun x hx=>h x (mcm _ (mal _ hx)),fun x hx=>h x (mcm _ (mar _ hx))⟩
  obtain ⟨ok0,hg,hm1,hm2,hr,hrise⟩:=ho
  have ho:(Gr.cons k g m r).Ok (2 ^ 119):=⟨ok0,hg,hm1,hm2,hr,hrise⟩
  have e1:(Gr.cons k g m r).parts=1+g.parts+r.parts:=rfl
  have e2:(Gr.cons k g m r).deep=max (1+g.deep) r.deep:=rfl
  rw [e1,Nat.mul_add,Nat.mul_add,Nat.mul_one] at hp
  rw [e1] at hx
  obtain ⟨s1,s2⟩:=rk_size hP' h
  obtain ⟨g1,g2⟩:=rk_size hP' hnn.1
  obtain ⟨n1,n2⟩:=rk_numsX hX' hnn.1 hg
  have p0:=z0b (x+121*g.parts)
  have px:=z0b x
  have io:(Lad.bths (rkT b ρ g)).Ok (2 ^ (x+121*g.parts)):=Lad.bths_ok n1 (by omega) (Int.le_refl _) n2
  have lo:=(Lad.lad_ok (w:=b.wide k) (hX' k hkn) io px p0)
  have m1:=z0j (show x<=x+121*g.parts by omega)
  have m2:=z0j (show x+121*g.parts+1<=2000 by omega)
  have m3:=z19 (x+121*g.parts)
  obtain ⟨kb,kne,kp,kd,kx⟩:=hk k hkn
  have num:∀ {l:Lad},l.Ok (2 ^ 2000)->∀ p ∈ l.ps,0<=p.2/\p.2 < 2 ^ 2000:=fun hl p hp=>by
   have:=(Lad.ok_iff.mp hl).1 p hp
   exact ⟨by omega,this.2.2⟩
  have ip:(Lad.bths (rkT b ρ g)).parts<=P*g.parts:=Nat.le_trans (Lad.bths_parts _) g1
  have idp:(Lad.bths (rkT b ρ g)).deep<=D+g.deep:=Lad.bths_deep g2
  have lp:=Lad.lad_parts (b.wide k) (ρ k) (Lad.bths (rkT b ρ g))
  have ld:=Lad.lad_deep (w:=b.wide k) (o:=ρ k) (l:=Lad.bths (rkT b ρ g)) (n:=D+g.deep) (by omega) idp
  refine ⟨⟨hkn,kb,kne,⟨by omega,by omega,num (kx.mono (by omega))⟩,⟨by show (Lad.bths (rkT b ρ g)).deep<=25; omega,by show (Lad.bths (rkT b ρ g)).parts<=900; omega,num (io.mono (by omega))⟩,⟨by show (lad (b.wide k) (ρ k) (Lad.bths (rkT b ρ g))).deep<=25; omega,by show (lad (b.wide k) (ρ k) (Lad.bths (rkT b ρ g))).parts<=900; omega,num (lo.mono (by omega))⟩,by omega,by omega,?_⟩,rk_fitX hk hP hnn.1 hg (by omega) (by omega) (by omega),rk_fitX hk hP hnn.2 hr (by omega) (by omega) (by omega)⟩
  have key:∀ ls:List Lad,(ls.flatMap Lad.ps).length<=(ls.map Lad.parts).sum:=by
   intro ls
   induction ls with
   | nil=>exact Nat.le_refl _
   | cons l r ih =>
    rw [List.flatMap_cons,List.length_append,List.map_cons,List.sum_cons,Lad.ps_length]
    have:=l.len_parts
    omega
  have:=key (rkT b ρ (.cons k g m r))
  rw [e1,Nat.mul_add,Nat.mul_add,Nat.mul_one] at s1
  exact Nat.le_trans (Nat.le_trans this s1) (by omega)
end Gr
theorem Gr.named_bare {k:Str} {ns:List Str} {m:Int} (h:k ∈ ns):Gr.Named ns (.cons k .nil m .nil):=fun x hx=>by
 have e:x=((k,.nil),m):=by simpa [Gr.within] using hx
 rw [e]; exact h
theorem zfi {w:Bool} {o:Lad} (ho:o ≠ .nil):lad w o .nil=o:=by
 cases w with
 | false=>exact Lad.bhd_nil o
 | true =>
  cases o with
  | nil=>exact absurd rfl ho
  | cons e m r=>rfl
theorem Gr.rk_bare {b:Bk} {ρ:Str->Lad} {n:Str} {m:Int} (h:Lad.R (ρ n)) (ho:ρ n ≠ .nil) (hm:0<=m):Gr.rk b ρ (.cons n .nil m .nil)=Lad.tms (ρ n) m:=by
 have e:Gr.rk b ρ (.cons n .nil m .nil)=Lad.bths [Lad.tms (lad (b.wide n) (ρ n) (Lad.bths [])) m]:=rfl
 rw [e,Lad.bths_nil,zfi ho]
 obtain ⟨B,hB,hr⟩:=h.tms hm
 exact Lad.bths_one hr (by omega)
/-- drawn worths -/
structure W49 (b:Bk) (ρ:Str->Lad):Prop where
 each:∀ n ∈ b.names,ρ n ≠ .nil/\(ρ n).Ok (2 ^ 80)/\(ρ n).parts<=12/\(ρ n).deep<=3
theorem W49.fit {b:Bk} {ρ:Str->Lad} (h:W49 b ρ) {ns:List Str} (pm:ns.Perm b.names) {g:Gr} (hn:Gr.Named b.names g) (ho:g.Ok (2 ^ 119)) (hp:g.parts<=4) (hd:g.deep<=4):Gr.Fit b ρ ns g :=
 (Gr.rk_fitX (P:=12) (D:=3) (x:=80) (fun n hn=>by
  obtain ⟨h1,h2,h3,h4⟩:=h.each n hn
  exact ⟨hn,h1,h3,h4,h2⟩) (by decide) hn ho (by omega) (by omega) (by omega)).mono fun n hn=>pm.mem_iff.mpr hn
theorem zay {kd:Kd} {i:Nat} {r:Ru} (h:(noR::kd.rs)[i]?=some r):r=noR\/r ∈ kd.rs:=by
 rcases List.mem_cons.mp (List.mem_of_getElem? h) with e | e
 ·exact .inl e
 ·exact .inr e
theorem RuOk.no:RuOk noR:=⟨trivial,trivial,by decide⟩
theorem zax {b:Bk} (ok:b.Ok) {kd:Kd} (hk:kd ∈ b) {i:Nat} {r:Ru} (h:(noR::kd.rs)[i]?=some r):RuOk r/\Gr.Named b.names r.1/\Gr.Named b.names r.2:=by
 rcases zay h with e | e
 ·rw [e]; exact ⟨RuOk.no,(fun x hx=>nomatch (show x ∈ ([]:List (Tr × Int)) from hx)),(fun x hx=>nomatch (show x ∈ ([]:List (Tr × Int)) from hx))⟩
 ·exact ok.named hk e
/-- where no rule is at fault,a fall leaves less -/
theorem NoF.fall {b:Bk} {ρ:Str->Lad} (h:NoF b ρ) (ok:b.Ok) (hR:RB b ρ) {kd:Kd} (hk:kd ∈ b) {i:Nat} {r:Ru} (hr:(noR::kd.rs)[i]?=some r) {n:Int} (hn:0<=n):(Gr.rk b ρ (Gr.grw r n)).lt (ρ kd.n)=true:=by
 have hm:kd.n ∈ b.names:=List.mem_map.mpr ⟨kd,hk,rfl⟩
 obtain ⟨rok,n1,n2⟩:=zax ok hk hr
 rcases zay hr with e | e
 ·rw [e,show Gr.grw noR n=.nil from Gr.grw_nil hn,Gr.rk_nil]
  exact Lad.nil_le _ (hR _ hm).2
 ·rw [Gr.rk_grw rok hn hR n1 n2]
  exact Lad.lt_le (Lad.above_gt (Gr.rk_R rok.1 (Gr.RN.named hR n1)) (Gr.rk_R rok.2.1 (Gr.RN.named hR n2)) hn) (h kd hk r e)
structure D49 (l:Lad):Prop where
 ne:l ≠ .nil
 ok:l.Ok (2 ^ 80)
 parts:l.parts<=12
 deep:l.deep<=3
theorem D49.set {ns:List Str} {ρ:Str->Lad} (h:∀ m ∈ ns,D49 (ρ m)) {n:Str} {l:Lad} (hl:D49 l):∀ m ∈ ns++[n],D49 (setL ρ n l m):=fun m hm=>by
 unfold setL
 split
 ·exact hl
 ·rename_i hne
  rcases List.mem_append.mp hm with e | e
  ·exact h m e
  ·exact absurd (List.mem_singleton.mp e) hne
section
variable {K:PySem.W.Frag} {H:Hp} {bad:List Addr} {v:V} {k:Kd}
theorem KdAll.set (hv:KdA K H bad v k):∀ {vs:List V} {b:Bk} (i:Nat),KdAll K H bad vs b->KdAll K H bad (vs.set i v) (b.set i k)
 | _,_,_,.nil=>.nil
 | _,_,0,.cons _ t=>.cons hv t
 | _,_,i+1,.cons h t=>.cons h (KdAll.set hv i t)
end
theorem z7i:∀ {b:Bk} {i:Nat} {k k':Kd},b[i]?=some k->k'.n=k.n->Bk.names (b.set i k')=b.names
 | [],_,_,_,h,_=>by simp at h
 | x::r,0,k,k',h,e=>by
  have:x=k:=by simpa using h
  simp [Bk.names,e,this]
 | x::r,i+1,k,k',h,e=>by
  have h2:r[i]?=some k:=by simpa using h
  have:=z7i (b:=r) h2 e
  simpa [Bk.names] using this
/-- so many leaves -/
def lf (x:Str) (m:Int):Gr:=if m=0 then .nil else .cons x .nil m .nil
theorem zas {x:Str} {m C:Int} (hx:z01 x) (h0:0<=m) (hC:m < C):(lf x m).Ok C:=by
 unfold lf
 split
 ·trivial
 ·exact zgw hx (by omega) hC
theorem z2p (x:Str) (m:Int):(lf x m).parts<=1:=by
 unfold lf
 split
 ·exact Nat.zero_le _
 ·exact Nat.le_refl _
theorem z2n {x:Str} {ns:List Str} (m:Int) (h:x ∈ ns):Gr.Named ns (lf x m):=by
 unfold lf
 split
 ·intro x hx; exact nomatch (show x ∈ ([]:List (Tr × Int)) from hx)
 ·exact Gr.named_bare h
def du39 (once each:Int):Lad:=if 0 < each then .cons Lad.uno 1 .nil else .cons .nil (1+once) .nil
/-- the second kind's rules,and what its own rank is due to be -/
def Two39 (x:Str) (once each:Int) (rs:List Ru) (due:Lad):Prop:=(rs=[]/\due=Lad.uno)\/(rs=[(lf x once,lf x each)]/\due=du39 once each)
theorem Two39.ladder {x:Str} {once each:Int} {rs:List Ru} {due:Lad} (h:Two39 x once each rs due) (h0:0<=once) (h1:once<=10 ^ 9):∃ e c,due=.cons e c .nil/\1<=c/\c<=10 ^ 9+1/\(e=.nil\/(e=Lad.uno/\c=1/\0 < each)):=by
 rcases h with ⟨_,rfl⟩ | ⟨_,rfl⟩
 ·exact ⟨_,_,rfl,by decide,by decide,.inl rfl⟩
 ·unfold du39
  split
  ·exact ⟨_,_,rfl,by decide,by decide,.inr ⟨rfl,rfl,by assumption⟩⟩
  ·exact ⟨_,_,rfl,by omega,by omega,.inl rfl⟩
def z0m (x:Str) (due:Lad):Str->Lad:=fun n=>if n=x then Lad.uno else due
/-- a book of the two kinds -/
structure B39 (b:Bk) (x y:Str) (due:Lad):Prop where
 ok:b.Ok
 own:OwnR b (z0m x due)
 mx:x ∈ b.names
 my:y ∈ b.names
 ex:EndK b x
 ey:EndK b y
 each:∀ n ∈ b.names,z0m x due n ≠ .nil/\(z0m x due n).parts<=2/\(z0m x due n).deep<=2/\(z0m x due n).Ok (2 ^ 31)
theorem zaq {e:Lad} {c:Int} (hc:1<=c) (h2:c<=10 ^ 9+1) (he:e=.nil\/e=Lad.uno):(Lad.cons e c .nil).Ok (2 ^ 31)/\(Lad.cons e c .nil).parts<=2/\(Lad.cons e c .nil).deep<=2:=by
 have p31:(10:Int) ^ 9+1 < 2 ^ 31:=by decide
 rcases he with rfl | rfl
 ·exact ⟨⟨trivial,hc,by omega,trivial,fun p hp=>nomatch hp⟩,by show 1<=2; decide,by show 1<=2; decide⟩
 ·exact ⟨⟨Lad.uno_ok.mono (by decide),hc,by omega,trivial,fun p hp=>nomatch hp⟩,by show 2<=2; decide,by show 2<=2; decide⟩
theorem B39.of {b:Bk} {x y:Str} {w0 w1:Bool} {rs0 rs1:List Ru} {once each:Int} {due:Lad} (hx:z01 x) (hy:z01 y) (hne:y ≠ x) (h0:rs0=[]\/rs0=[noR]) (h1:Two39 x once each rs1 due) (o0:0<=once) (o1:once<=10 ^ 9) (e0:0<=each) (e1:each<=10 ^ 9)
  (hb:b=[⟨x,w0,rs0⟩,⟨y,w1,rs1⟩]\/b=[⟨y,w1,rs1⟩,⟨x,w0,rs0⟩]):B39 b x y due:=by
 have mem:∀ k,k ∈ b ↔ k=⟨x,w0,rs0⟩\/k=⟨y,w1,rs1⟩:=fun k=>by
  rcases hb with e | e <;> rw [e] <;> simp [or_comm]
 have nms:∀ n,n ∈ b.names ↔ n=x\/n=y:=fun n=>by
  rcases hb with e | e <;> rw [e] <;> simp [Bk.names,or_comm]
 have mx:=(nms x).mpr (.inl rfl)
 have my:=(nms y).mpr (.inr rfl)
 have r0:∀ r ∈ rs0,r=noR:=fun r hr=>by
  rcases h0 with e | e <;> rw [e] at hr
  ·cases hr
  ·exact List.mem_singleton.mp hr
 have r1:∀ r ∈ rs1,r=(lf x once,lf x each):=fun r hr=>by
  rcases h1 with ⟨e,_⟩ | ⟨e,_⟩ <;> rw [e] at hr
  ·cases hr
  ·exact List.mem_singleton.mp hr
 have rok:RuOk (lf x once,lf x each):=⟨zas hx o0 (by omega),zas hx e0 (by omega),by have a:=z2p x once; have c:=z2p x each; show (lf x once).parts+(lf x each).parts<=4; omega⟩
 have ok:b.Ok:=by
  refine ⟨by rcases hb with e | e <;> rw [e] <;> simp,by rcases hb with e | e <;> rw [e] <;> simp,by rcases hb with e | e <;> rw [e] <;> simp [Bk.names,hne,show ¬ x=y from fun z=>hne z.symm],fun k hk=>?_⟩
  rcases (mem k).mp hk with e | e
  ·rw [e]
   exact ⟨hx,by rcases h0 with e | e <;> rw [e] <;> simp,fun r hr=>by rw [r0 r hr]; exact ⟨RuOk.no,fun p hp=>nomatch (show p ∈ ([]:List (Tr × Int)) from hp)⟩⟩
  ·rw [e]
   refine ⟨hy,by rcases h1 with ⟨e,_⟩ | ⟨e,_⟩ <;> rw [e] <;> simp,fun r hr=>?_⟩
   rw [r1 r hr]
   refine ⟨rok,fun p hp=>?_⟩
   rcases List.mem_append.mp hp with z | z
   ·exact z2n once mx p z
   ·exact z2n each mx p z
 have kx:(⟨x,w0,rs0⟩:Kd) ∈ b:=(mem _).mpr (.inl rfl)
 have ky:(⟨y,w1,rs1⟩:Kd) ∈ b:=(mem _).mpr (.inr rfl)
 have ex:EndK b x:=.mk fun k hk=>by
  have:=z10 ok kx
  have hk:k ∈ adj b (⟨x,w0,rs0⟩:Kd).n:=hk
  rw [this] at hk
  rcases h0 with e | e <;> rw [e] at hk <;> exact nomatch (show k ∈ ([]:List Str) from hk)
 have ady:∀ k ∈ adj b y,k=x:=fun k hk=>by
  have:=z10 ok ky
  have hk:k ∈ adj b (⟨y,w1,rs1⟩:Kd).n:=hk
  rw [this] at hk
  obtain ⟨r,hr,hk⟩:=List.mem_flatMap.mp hk
  rw [r1 r hr] at hk
  obtain ⟨p,hp,rfl⟩:=List.mem_map.mp hk
  have h:p.1.1 ∈ [x]:=by
   rcases List.mem_append.mp hp with z | z
   ·exact z2n once (List.mem_singleton.mpr rfl) p z
   ·exact z2n each (List.mem_singleton.mpr rfl) p z
  exact List.mem_singleton.mp h
 have ey:EndK b y:=.mk fun k hk=>by rw [ady k hk]; exact ex
 obtain ⟨e,c,hd,c1,c2,he⟩:=h1.ladder o0 o1
 have he':e=.nil\/e=Lad.uno:=by
  rcases he with h | h
  ·exact .inl h
  ·exact .inr h.1
 obtain ⟨g1,g2,g3⟩:=zaq c1 c2 he'
 have hρx:z0m x due x=Lad.uno:=by unfold z0m; rw [if_pos rfl]
 have hρy:z0m x due y=due:=by unfold z0m; rw [if_neg hne]
 have each':∀ n ∈ b.names,z0m x due n ≠ .nil/\(z0m x due n).parts<=2/\(z0m x due n).deep<=2/\(z0m x due n).Ok (2 ^ 31):=fun n hn=>by
  rcases (nms n).mp hn with e | e
  ·rw [e,hρx]; exact ⟨by simp [Lad.uno],by show 1<=2; decide,by show 1<=2; decide,Lad.uno_ok.mono (by decide)⟩
  ·rw [e,hρy,hd]; exact ⟨by simp,g2,g3,g1⟩
 have hR:∀ n ∈ [x],Lad.R (z0m x due n)/\z0m x due n ≠ .nil:=fun n hn=>by rw [List.mem_singleton.mp hn,hρx]; exact ⟨Lad.R.uno,by simp [Lad.uno]⟩
 have lfrk:∀ m:Int,0<=m->Gr.rk b (z0m x due) (lf x m)=Lad.num m:=fun m hm=>by
  unfold lf Lad.num
  by_cases m0:m=0
  ·rw [if_pos m0,if_pos m0]; exact Gr.rk_nil
  ·rw [if_neg m0,if_neg m0,Gr.rk_bare (by rw [hρx]; exact Lad.R.uno) (by rw [hρx]; simp [Lad.uno]) hm,hρx]
   unfold Lad.tms
   rw [if_neg m0]
   show Lad.cons .nil (1*m) .nil=_
   rw [Int.one_mul]
 have clm1:clm b (z0m x due) (lf x once,lf x each)=du39 once each:=by
  show Lad.abv (Gr.rk b _ (lf x once)) (Gr.rk b _ (lf x each))=_
  rw [lfrk once o0,lfrk each e0]
  unfold du39
  by_cases hz:0 < each
  ·rw [if_pos hz]
   have:Lad.num each=.cons .nil each .nil:=by unfold Lad.num; rw [if_neg (by omega)]
   rw [this]
   refine Lad.R.ext (Lad.R.abv ?_ ⟨each+1,by omega,trivial,by omega,by omega,trivial,fun p hp=>nomatch hp⟩) ⟨2 ^ 31,by decide,(zaq (by decide) (by decide) (.inr rfl)).1⟩ fun z=>?_
   ·unfold Lad.num
    split
    ·exact Lad.R.nil
    ·exact ⟨once+1,by omega,trivial,by omega,by omega,trivial,fun p hp=>nomatch hp⟩
   ·rw [Lad.S_abv,Lad.S_uno,Lad.nil_bhd]
    have:(if Lad.lt .nil z=true then Lad.S (Lad.num once) z else 0)=0:=by
     split
     ·rename_i hlt
      unfold Lad.num
      split
      ·rfl
      ·show Lad.sumAt [(.nil,once)] z=0
       rw [Lad.sumAt_cons,if_neg (Lad.lt_ne hlt),Lad.sumAt_nil]; rfl
     ·rfl
    rw [this,Int.zero_add]
  ·rw [if_neg hz]
   have:each=0:=by omega
   rw [this]
   show Lad.bth (Lad.num once) Lad.uno=_
   refine Lad.R.ext (Lad.R.bth ?_ Lad.R.uno) ⟨2 ^ 31,by decide,(zaq (by omega) (by omega) (.inl rfl)).1⟩ fun z=>?_
   ·unfold Lad.num
    split
    ·exact Lad.R.nil
    ·exact ⟨once+1,by omega,trivial,by omega,by omega,trivial,fun p hp=>nomatch hp⟩
   ·rw [Lad.S_bth,Lad.S_uno]
    show _=Lad.sumAt [(.nil,1+once)] z
    rw [Lad.sumAt_cons,Lad.sumAt_nil]
    unfold Lad.num
    split
    ·rename_i h0'
     subst h0'
     show Lad.sumAt [] z+_=_
     rw [Lad.sumAt_nil]; split <;> omega
    ·show Lad.sumAt [(.nil,once)] z+_=_
     rw [Lad.sumAt_cons,Lad.sumAt_nil]; split <;> omega
 have max1:∀ l:Lad,Lad.R l->l ≠ .nil->Lad.maxL Lad.uno [l]=l:=fun l hl hn=>by
  show (if Lad.uno.lt l=true then l else Lad.uno)=l
  rcases (Lad.uno_le hl hn).cases with e | e
  ·rw [<- e]; split <;> rfl
  ·rw [if_pos e]
 have lfit:∀ (ns:List Str) (m:Int),(x ∈ ns\/lf x m=.nil)->0<=m->m<=10 ^ 9->Gr.Fit b (z0m x due) ns (lf x m):=fun ns m hns hm hm2=>by
  by_cases m0:m=0
  ·have:lf x m=.nil:=by unfold lf; rw [if_pos m0]
   rw [this]; trivial
  ·have hns:x ∈ ns:=by
    rcases hns with h | h
    ·exact h
    ·unfold lf at h; rw [if_neg m0] at h; cases h
   refine (Gr.rk_fitX (P:=2) (D:=2) (x:=31) (ns:=[x]) (fun n hn=>?_) (by decide) (z2n m (List.mem_singleton.mpr rfl)) (zas hx hm ?_) ?_ ?_ ?_).mono fun n hn=>by rw [List.mem_singleton.mp hn]; exact hns
   ·rw [List.mem_singleton.mp hn]; exact ⟨mx,each' x mx⟩
   ·have:(10:Int) ^ 9 < 2 ^ 119:=by decide
    omega
   ·have:=z2p x m; omega
   ·have h1:=z2p x m; have h2:=(lf x m).deep_parts; omega
   ·have:=z2p x m; omega
 refine ⟨ok,⟨fun k hk he=>?_,fun k hk he ns hns r hr=>?_,fun k hk he r hr=>?_⟩,mx,my,ex,ey,each'⟩
 ·rcases (mem k).mp hk with z | z
  ·rw [z]
   show z0m x due x=Lad.maxL Lad.uno (rs0.map _)
   rw [hρx]
   rcases h0 with z | z <;> rw [z]
   ·rfl
   ·show _=Lad.maxL Lad.uno [clm b _ (.nil,.nil)]
    rw [z8d,max1 _ Lad.R.uno (by simp [Lad.uno])]
  ·rw [z]
   show z0m x due y=Lad.maxL Lad.uno (rs1.map _)
   rw [hρy]
   rcases h1 with ⟨z,z2⟩ | ⟨z,z2⟩ <;> rw [z,z2]
   ·rfl
   ·show _=Lad.maxL Lad.uno [clm b _ _]
    rw [<- z2,clm1,z2,max1 _ (by rw [<- z2,hd]; exact ⟨_,by decide,g1⟩) (by rw [<- z2,hd]; simp)]
 ·rcases (mem k).mp hk with z | z
  ·rw [z] at hr
   rw [r0 r hr]
   exact zfj b _ ns
  ·rw [z] at hr hns
   have er:=r1 r hr
   rw [er]
   have hns':∀ m:Int,(lf x m=(lf x once)\/lf x m=lf x each)->(x ∈ ns\/lf x m=.nil):=fun m hm=>by
    by_cases m0:lf x m=.nil
    ·exact .inr m0
    ·refine .inl (hns x ?_)
     have:=z10 ok ky
     show x ∈ adj b (⟨y,w1,rs1⟩:Kd).n
     rw [this]
     refine z0s hr (x:=((x,.nil),m)) ?_
     have hw:((x,Gr.nil),m) ∈ (lf x m).within:=by
      unfold lf at m0 ⊢
      split
      ·rename_i h; rw [if_pos h] at m0; exact absurd rfl m0
      ·simp [Gr.within]
     rw [er]
     rcases hm with h | h
     ·exact mal _ (by rw [<- h]; exact hw)
     ·exact mar _ (by rw [<- h]; exact hw)
   have sz:∀ m:Int,0<=m->(Gr.rk b (z0m x due) (lf x m)).deep<=1/\(Gr.rk b (z0m x due) (lf x m)).parts<=1:=fun m hm=>by
    rw [lfrk m hm]
    unfold Lad.num
    refine ⟨?_,?_⟩ <;> split
    ·exact Nat.zero_le _
    ·exact Nat.le_refl _
    ·exact Nat.zero_le _
    ·exact Nat.le_refl _
   obtain ⟨a1,a2⟩:=sz once o0
   obtain ⟨a3,a4⟩:=sz each e0
   exact ⟨lfit ns once (hns' once (.inl rfl)) o0 o1,lfit ns each (hns' each (.inr rfl)) e0 e1,by show (Gr.rk b _ (lf x once)).deep<=24; omega,by show (Gr.rk b _ (lf x each)).deep<=24; omega,by show (Gr.rk b _ (lf x once)).parts<=390; omega,by show (Gr.rk b _ (lf x each)).parts<=390; omega⟩
 ·rcases (mem k).mp hk with z | z
  ·rw [z] at hr
   rw [r0 r hr,z8d]; show 1<=45; decide
  ·rw [z] at hr
   rw [r1 r hr,clm1]
   unfold du39
   split
   ·show 2<=45; decide
   ·show 1<=45; decide
theorem B39.fit {b:Bk} {x y:Str} {due:Lad} (h:B39 b x y due) {g:Gr} (hn:Gr.Named b.names g) (ho:g.Ok (2 ^ 119)) (hp:g.parts<=4) (he:∀ z ∈ g.within,EndK b z.1.1):∀ ns,(∀ n ∈ b.names,EndK b n->n ∈ ns)->Gr.Fit b (z0m x due) ns g:=fun ns hns=>by
 have hn2:Gr.Named (g.within.map (·.1.1)) g:=fun z hz=>List.mem_map.mpr ⟨z,hz,rfl⟩
 have dp:=g.deep_parts
 refine (Gr.rk_fitX (P:=2) (D:=2) (x:=31) (fun n hm=>?_) (by decide) hn2 ho (by omega) (by omega) (by omega)).mono fun n hm=>?_
 ·obtain ⟨z,hz,rfl⟩:=List.mem_map.mp hm
  exact ⟨hn z hz,h.each _ (hn z hz)⟩
 ·obtain ⟨z,hz,rfl⟩:=List.mem_map.mp hm
  exact hns _ (hn z hz) (he z hz)
theorem S_one (e:Lad) (m:Int) (z:Lad):Lad.S (.cons e m .nil) z=if e=z then m else 0:=by
 show Lad.sumAt [(e,m)] z=_
 rw [Lad.sumAt_cons,Lad.sumAt_nil,Int.add_zero]
namespace Gr
/-- the product of the sizes of all trees of a tree -/
def wT (t:Tr):Nat:=(1+t.2.size).toNat*prN t.2.szs
def prL:List (Tr × Int)->Nat
 | []=>1
 | p::r=>wT p.1 ^ p.2.toNat*prL r
theorem szs_prL:∀ g:Gr,prN g.szs=prL g.ps
 | .nil=>rfl
 | .cons k g m r=>by
  show prN ((List.replicate m.toNat ((1+g.size).toNat::g.szs)).flatten++r.szs)=wT (k,g) ^ m.toNat*prL r.ps
  rw [z28,z76,szs_prL r]
  rfl
theorem prL_append:∀ as bs:List (Tr × Int),prL (as++bs)=prL as*prL bs
 | [],bs=>by simp [prL]
 | p::r,bs=>by
  show wT p.1 ^ p.2.toNat*prL (r++bs)=wT p.1 ^ p.2.toNat*prL r*prL bs
  rw [prL_append r bs,Nat.mul_assoc]
theorem prL_one (t:Tr):prL [(t,1)]=wT t:=by
 show wT t ^ (1:Int).toNat*1=wT t
 rw [Nat.mul_one,show (1:Int).toNat=1 from rfl,Nat.pow_one]
theorem sumE_pos (t:Tr):∀ {l:List (Tr × Int)},(∀ p ∈ l,0<=p.2)->0<=sumE l t
 | [],_=>Int.le_refl _
 | p::r,h=>by
  have:=sumE_pos t fun q hq=>h q (mcm _ hq)
  have h2:=h p (mcs ..)
  rw [z04]
  split <;> omega
theorem prL_out (t:Tr):∀ l:List (Tr × Int),(∀ p ∈ l,0<=p.2)->prL l=wT t ^ (sumE l t).toNat*prL (l.filter fun p=>decide (p.1 ≠ t))
 | [],_=>by simp [prL,sumE]
 | p::r,h=>by
  have hr:∀ q ∈ r,0<=q.2:=fun q hq=>h q (mcm _ hq)
  have ih:=prL_out t r hr
  have h0:=sumE_pos t hr
  have h2:=h p (mcs ..)
  by_cases e:p.1=t
  ·rw [List.filter_cons_of_neg (by simpa using e)]
   show wT p.1 ^ p.2.toNat*prL r=_
   rw [z04,if_pos e,ih,e,Int.toNat_add h2 h0,Nat.pow_add,Nat.mul_assoc]
  ·rw [List.filter_cons_of_pos (by simpa using e)]
   show wT p.1 ^ p.2.toNat*prL r=_*(wT p.1 ^ p.2.toNat*_)
   rw [z04,if_neg e,Int.zero_add,ih,Nat.mul_left_comm]
theorem prL_ext:∀ (n:Nat) (as bs:List (Tr × Int)),as.length+bs.length<=n->(∀ p ∈ as,0<=p.2)->(∀ p ∈ bs,0<=p.2)->(∀ x,sumE as x=sumE bs x)->prL as=prL bs
 | n,[],[],_,_,_,_=>rfl
 | 0,p::r,bs,h,_,_,_=>by simp at h
 | 0,[],p::r,h,_,_,_=>by simp at h
 | n+1,p::r,bs,h,ha,hb,e=>by
  rw [prL_out p.1 (p::r) ha,prL_out p.1 bs hb,e p.1,prL_ext n ((p::r).filter fun q=>decide (q.1 ≠ p.1)) (bs.filter fun q=>decide (q.1 ≠ p.1)) ?_ (fun q hq=>ha q (List.mem_filter.mp hq).1) (fun q hq=>hb q (List.mem_filter.mp hq).1) fun x=>?_]
  ·have h1:=z1q (p:=p) (r:=r)
   have h2:=List.length_filter_le (fun q:Tr × Int=>decide (q.1 ≠ p.1)) bs
   simp only [List.length_cons] at h
   omega
  ·rw [z15,z15,e]
 | n+1,[],p::r,h,ha,hb,e=>by
  rw [prL_out p.1 (p::r) hb,prL_out p.1 [] ha,<- e p.1,prL_ext n (([]:List (Tr × Int)).filter fun q=>decide (q.1 ≠ p.1)) ((p::r).filter fun q=>decide (q.1 ≠ p.1)) ?_ (fun q hq=>ha q (List.mem_filter.mp hq).1) (fun q hq=>hb q (List.mem_filter.mp hq).1) fun x=>?_]
  ·have h1:=z1q (p:=p) (r:=r)
   simp only [List.length_cons,List.length_nil,List.filter_nil] at h ⊢
   omega
  ·rw [z15,z15,e]
variable {b:Bk} {C:Int} {g:Gr}
theorem S_ps (g:Gr) (x:Tr):S g x=sumE g.ps x:=rfl
theorem stk0_nn (ho:g.Ok C) {pl:Pl} {k:Str} (h:bareAt g pl=some k):∀ p ∈ (stk b 0 .nil pl g).1.ps,0<=p.2:=fun p hp=>by
 have:=ok_pos (stk_ok (b:=b) (fr:=.nil) (F:=1) (Int.le_refl 0) (by decide) trivial ho h) p hp
 omega
theorem stk0_last (ho:g.Ok C) {i:Nat} {p:Tr × Int} (e:g.ps[i]?=some p) (x:Tr):sumE ((stk b 0 .nil [i] g).1.ps++[(p.1,1)]) x=sumE g.ps x:=by
 have h1:=S_mem1 ho (List.mem_of_getElem? e)
 rw [stk_one e,z0f,<- S_ps,S_tgt,S_wo ho (by decide)]
 show _+S .nil x+((if p.1=x then (1:Int) else 0)+0)=S g x
 show _+(0:Int)+_=_
 by_cases hx:x=p.1
 ·subst hx
  rw [if_pos rfl,if_pos rfl]
  split <;> omega
 ·rw [if_neg hx,if_neg fun z=>hx z.symm]
  omega
theorem stk0_more (ho:g.Ok C) {i:Nat} {r:Pl} {p:Tr × Int} (e:g.ps[i]?=some p) (hr:r ≠ []) (x:Tr):sumE ((stk b 0 .nil (i::r) g).1.ps++[(p.1,1)]) x=sumE (g.ps++[((p.1.1,(stk b 0 .nil r p.1.2).1),1)]) x:=by
 have h1:=S_mem1 ho (List.mem_of_getElem? e)
 obtain ⟨f1,f2⟩:=Bk.far_le b p.1.1 (n:=0) (by decide)
 have ef:b.far p.1.1 0=0:=by omega
 rw [stk_more e hr,z0f,z0f,<- S_ps,<- S_ps]
 show S (tgt (wo g p.1 1) (one (p.1.1,(stk b 0 .nil r p.1.2).1) (1+b.far p.1.1 0))) x+((if p.1=x then (1:Int) else 0)+0)=S g x+((if (p.1.1,(stk b 0 .nil r p.1.2).1)=x then (1:Int) else 0)+0)
 rw [S_tgt,S_wo ho (by decide),S_one,ef]
 generalize (p.1.1,(stk b 0 .nil r p.1.2).1)=q
 by_cases hx:x=p.1
 ·subst hx
  rw [if_pos (rfl:p.1=p.1),if_pos (rfl:p.1=p.1)]
  by_cases hq:q=p.1
  ·rw [if_pos hq,if_pos hq]
   split <;> omega
  ·rw [if_neg hq,if_neg hq]
   split <;> omega
 ·rw [if_neg hx,if_neg (show ¬ p.1=x from fun z=>hx z.symm)]
  split <;> omega
theorem nn_snoc {l:List (Tr × Int)} (h:∀ p ∈ l,0<=p.2) (t:Tr):∀ p ∈ l++[(t,(1:Int))],0<=p.2:=fun p hp=>by
 rcases List.mem_append.mp hp with hp | hp
 ·exact h p hp
 ·rw [List.mem_singleton.mp hp]; show (0:Int)<=1; decide
theorem nn_ps (ho:g.Ok C):∀ p ∈ g.ps,0<=p.2:=fun p hp=>by have:=ok_pos ho p hp; omega
/-- the product at a fall -/
theorem pr_last (ho:g.Ok C) {i:Nat} {p:Tr × Int} {k:Str} (e:g.ps[i]?=some p) (h:bareAt g [i]=some k):prN (stk b 0 .nil [i] g).1.szs*wT p.1=prN g.szs:=by
 have:=prL_ext _ _ _ (Nat.le_refl _) (nn_snoc (stk0_nn (b:=b) ho h) p.1) (nn_ps ho) (stk0_last ho e)
 rw [prL_append,prL_one] at this
 rw [szs_prL,szs_prL,this]
theorem pr_more (ho:g.Ok C) {i:Nat} {r:Pl} {p:Tr × Int} {k:Str} (e:g.ps[i]?=some p) (hr:r ≠ []) (h:bareAt g (i::r)=some k):prN (stk b 0 .nil (i::r) g).1.szs*wT p.1=prN g.szs*wT (p.1.1,(stk b 0 .nil r p.1.2).1):=by
 have:=prL_ext _ _ _ (Nat.le_refl _) (nn_snoc (stk0_nn (b:=b) ho h) p.1) (nn_snoc (nn_ps ho) _) (stk0_more (b:=b) ho e hr)
 rw [prL_append,prL_one,prL_append,prL_one] at this
 rw [szs_prL,szs_prL,this]
theorem wsum_snoc (f:Tr->Int) (l:List (Tr × Int)) (t:Tr):wsum f (l++[(t,1)])=wsum f l+f t:=by
 rw [z1g]
 show _+(f t*1+0)=_
 omega
/-- a fall by rule 0 takes one tree away -/
theorem size_stk0:∀ {pl:Pl} {g:Gr} {k:Str},g.Ok C->bareAt g pl=some k->(stk b 0 .nil pl g).1.size=g.size-1
 | [],_,_,_,h=>nomatch h
 | i::r,g,k,ho,h=>by
  by_cases hr:r=[]
  ·subst hr
   obtain ⟨p,e,hp⟩:=bare_one h
   have:=z1k (fun t:Tr=>1+t.2.size) _ _ _ (Nat.le_refl _) (stk0_last (b:=b) ho e)
   rw [wsum_snoc,<- size_wsum,<- size_wsum,hp] at this
   have e0:(1:Int)+(Gr.nil).size=1:=rfl
   simp only [e0] at this
   omega
  ·obtain ⟨p,e,h2⟩:=bare_more hr h
   obtain ⟨_,o,_,_⟩:=ok_mem ho (List.mem_of_getElem? e)
   have ih:=size_stk0 o h2
   have:=z1k (fun t:Tr=>1+t.2.size) _ _ _ (Nat.le_refl _) (stk0_more (b:=b) ho e hr)
   rw [wsum_snoc,wsum_snoc,<- size_wsum,<- size_wsum] at this
   simp only [ih] at this
   omega
/-- how many trees stand at a place,those that hold it counted -/
def trs:Pl->Gr->Int
 | [],_=>1
 | i::r,g=>match g.ps[i]? with
  | none=>0
  | some p=>p.2*trs r p.1.2
theorem trs_at {i:Nat} {r:Pl} {p:Tr × Int} (e:g.ps[i]?=some p):trs (i::r) g=p.2*trs r p.1.2:=by rw [trs,e]
theorem bp_bare:∀ (m:Nat) {g:Gr} {pl:Pl},pl.length<=m->pl ∈ g.bp 0->∃ k,bareAt g pl=some k
 | m,g,pl,hl,h=>by
  rw [<- ar_bare g 0 1] at h
  obtain ⟨x,hx,rfl⟩:=List.mem_map.mp h
  obtain ⟨hx1,hx2⟩:=List.mem_filter.mp hx
  obtain ⟨h1,h2⟩:=ar_at (G:=g) g 0 1 rfl x hx1
  obtain ⟨pl',e,h3⟩:=lk_bare h1 h2
  rw [z7f e]
  exact ⟨_,h3 (of_decide_eq_true hx2)⟩
/-- a sum over places -/
def sumP (f:Pl->Int):List Pl->Int
 | []=>0
 | p::r=>f p+sumP f r
theorem sumP_append (f:Pl->Int):∀ as bs:List Pl,sumP f (as++bs)=sumP f as+sumP f bs
 | [],bs=>by simp [sumP]
 | p::r,bs=>by
  show f p+sumP f (r++bs)=f p+sumP f r+sumP f bs
  rw [sumP_append f r bs]; omega
theorem sumP_map (f:Pl->Int) (h:Pl->Pl):∀ l:List Pl,sumP f (l.map h)=sumP (fun p=>f (h p)) l
 | []=>rfl
 | p::r=>by
  show f (h p)+sumP f (r.map h)=_+_
  rw [sumP_map f h r]
theorem sumP_ext {f h:Pl->Int}:∀ {l:List Pl},(∀ p ∈ l,f p=h p)->sumP f l=sumP h l
 | [],_=>rfl
 | p::r,e=>by
  show f p+sumP f r=h p+sumP h r
  rw [e p (mcs ..),sumP_ext fun q hq=>e q (mcm _ hq)]
theorem sumP_mul (c:Int) (f:Pl->Int):∀ l:List Pl,sumP (fun p=>c*f p) l=c*sumP f l
 | []=>by simp [sumP]
 | p::r=>by
  show c*f p+sumP _ r=c*(f p+sumP f r)
  rw [sumP_mul c f r,Int.mul_add]
theorem pr_pos (ho:g.Ok C):0 < prN g.szs:=za6 fun x hx=>(szs_mem ho x hx).1
theorem sumP_bps (f:Pl->Int) (h:Tr × Int->Int) (M:Int):∀ (l:List (Tr × Int)) (i:Nat),(∀ j p,l[j]?=some p->sumP f (bpP p (i+j))=p.2*(1+p.1.2.size)*M)->sumP f (bps l i)=(l.map fun p=>p.2*(1+p.1.2.size)).sum*M
 | [],i,_=>by simp [bps,sumP]
 | p::r,i,e=>by
  show sumP f (bpP p i++bps r (i+1))=_
  have e0:sumP f (bpP p i)=p.2*(1+p.1.2.size)*M:=e 0 p rfl
  rw [sumP_append,e0,sumP_bps f h M r (i+1) fun j q hq=>by rw [show i+1+j=i+(j+1) by omega]; exact e (j+1) q hq,List.map_cons,List.sum_cons,Int.add_mul]
/-- the sum over all places of bare trees -/
theorem ord_core:∀ (n:Nat) {g:Gr},g.deep<=n->g.Ok C->∀ (v:Pl->Int) (M:Int),(∀ pl ∈ g.bp 0,v pl*(prN (stk b 0 .nil pl g).1.szs:Int)=M*(prN g.szs:Int))->sumP (fun pl=>trs pl g*v pl) (g.bp 0)=g.size*M
 | n,g,hd,ho,v,M,h=>by
  rw [bp_ps,size_ps]
  refine sumP_bps _ (fun _=>0) M g.ps 0 fun i p e=>?_
  have pm:=List.mem_of_getElem? e
  obtain ⟨pn,po,p1,_⟩:=ok_mem ho pm
  have pd:=g.mem_deep p pm
  rw [Nat.zero_add]
  have hin:∀ pl ∈ bpP p i,pl ∈ g.bp 0:=fun pl hpl=>by
   rw [bp_ps]
   have:bps g.ps 0=bps (g.ps.take i) 0++bpP p i++bps (g.ps.drop (i+1)) (i+1):=by
    conv=>lhs; rw [<- List.take_append_drop (i+1) g.ps]
    rw [bps_append,bps_take e,List.length_take,Nat.min_eq_left (by have:=(List.getElem?_eq_some_iff.mp e).1; omega),Nat.zero_add]
   rw [this]
   exact mal _ (mar _ hpl)
  by_cases hn:p.1.2=.nil
  ·have eb:bpP p i=[[i]]:=by unfold bpP; rw [if_pos hn]
   have hm:=hin [i] (by rw [eb]; simp)
   obtain ⟨k,hk⟩:=bp_bare _ (Nat.le_refl _) hm
   have e1:=h [i] hm
   have e2:=pr_last (b:=b) ho e hk
   have ew:wT p.1=1:=by
    unfold wT; rw [hn]; rfl
   rw [ew,Nat.mul_one] at e2
   have hP:=pr_pos ho
   rw [e2] at e1
   have ev:v [i]=M:=Int.eq_of_mul_eq_mul_right (by omega) e1
   rw [eb]
   show trs [i] g*v [i]+0=_
   rw [trs_at e,ev,hn]
   show p.2*1*M+0=p.2*(1+0)*M
   rw [Int.add_zero,Int.add_zero]
  ·have eb:bpP p i=(p.1.2.bp 0).map (i::·):=by unfold bpP; rw [if_neg hn]
   have hz:=size_pos1 po hn
   cases n with
   | zero=>omega
   | succ n =>
   have ih:=ord_core n (g:=p.1.2) (by omega) po (fun r=>v (i::r)*p.1.2.size) (M*(1+p.1.2.size)) fun r hr=>by
    have hm:=hin (i::r) (by rw [eb]; exact List.mem_map.mpr ⟨r,hr,rfl⟩)
    obtain ⟨k2,hk2⟩:=bp_bare _ (Nat.le_refl _) hr
    have hrn:r ≠ []:=bare_ne hk2
    obtain ⟨k,hk⟩:=bp_bare _ (Nat.le_refl _) hm
    have e1:=h (i::r) hm
    have e2:=pr_more (b:=b) ho e hrn hk
    have e3:=size_stk0 (b:=b) po hk2
    have e4:wT (p.1.1,(stk b 0 .nil r p.1.2).1)=p.1.2.size.toNat*prN (stk b 0 .nil r p.1.2).1.szs:=by
     unfold wT
     show (1+(stk b 0 .nil r p.1.2).1.size).toNat*_=_
     rw [e3,show 1+(p.1.2.size-1)=p.1.2.size by omega]
    have e5:wT p.1=(1+p.1.2.size).toNat*prN p.1.2.szs:=rfl
    rw [e4,e5] at e2
    have e6:(prN (stk b 0 .nil (i::r) g).1.szs:Int)*((1+p.1.2.size)*(prN p.1.2.szs:Int))=(prN g.szs:Int)*(p.1.2.size*(prN (stk b 0 .nil r p.1.2).1.szs:Int)):=by
     have:=congrArg (fun z:Nat=>(z:Int)) e2
     simp only [Int.natCast_mul] at this
     rw [Int.toNat_of_nonneg (by omega),Int.toNat_of_nonneg (by omega)] at this
     exact this
    have hP:=pr_pos ho
    generalize (prN (stk b 0 .nil (i::r) g).1.szs:Int)=X at e1 e6
    generalize (prN (stk b 0 .nil r p.1.2).1.szs:Int)=Y at e6 ⊢
    generalize (prN p.1.2.szs:Int)=Z at e6 ⊢
    have hP2:(prN g.szs:Int) ≠ 0:=by omega
    generalize (prN g.szs:Int)=W at e1 e6 hP2
    generalize v (i::r)=vv at e1 ⊢
    refine Int.eq_of_mul_eq_mul_left hP2 ?_
    show W*(vv*p.1.2.size*Y)=W*(M*(1+p.1.2.size)*Z)
    have a1:W*(vv*p.1.2.size*Y)=vv*(W*(p.1.2.size*Y)):=by ac_rfl
    have a2:W*(M*(1+p.1.2.size)*Z)=(M*W)*((1+p.1.2.size)*Z):=by ac_rfl
    rw [a1,<- e6,a2,<- e1]
    ac_rfl
   rw [eb,sumP_map]
   have e7:sumP (fun r=>trs (i::r) g*v (i::r)) (p.1.2.bp 0)=p.2*sumP (fun r=>trs r p.1.2*v (i::r)) (p.1.2.bp 0):=by
    rw [<- sumP_mul]
    exact sumP_ext fun r _=>by rw [trs_at e,Int.mul_assoc]
   have e8:sumP (fun r=>trs r p.1.2*(v (i::r)*p.1.2.size)) (p.1.2.bp 0)=p.1.2.size*sumP (fun r=>trs r p.1.2*v (i::r)) (p.1.2.bp 0):=by
    rw [<- sumP_mul]
    exact sumP_ext fun r _=>by ac_rfl
   rw [e8] at ih
   have ih:=Int.eq_of_mul_eq_mul_left (by omega) ih
   rw [e7,ih]
   ac_rfl
/-- in how many orders the trees of a grove can be struck off -/
def ordN (g:Gr):Nat:=fac g.size.toNat / prN g.szs
theorem ordN_mul (ho:g.Ok C):ordN g*prN g.szs=fac g.size.toNat:=Nat.div_mul_cancel (szs_dvd ho)
theorem ord_sum (ho:g.Ok C) (hn:g ≠ .nil):sumP (fun pl=>trs pl g*(ordN (stk b 0 .nil pl g).1:Int)) (g.bp 0)=(ordN g:Int):=by
 have hz:=size_pos1 ho hn
 have hP:=pr_pos ho
 have:=ord_core (b:=b) _ (Nat.le_refl _) ho (fun pl=>(ordN (stk b 0 .nil pl g).1:Int)*(prN g.szs:Int)) (fac (g.size.toNat-1):Int) fun pl hpl=>by
  obtain ⟨k,hk⟩:=bp_bare _ (Nat.le_refl _) hpl
  have o2:=stk_ok (b:=b) (fr:=.nil) (F:=1) (Int.le_refl 0) (by decide) trivial ho hk
  have e1:=congrArg (fun z:Nat=>(z:Int)) (ordN_mul o2)
  simp only [Int.natCast_mul] at e1
  rw [size_stk0 ho hk,show (g.size-1).toNat=g.size.toNat-1 by omega] at e1
  rw [<- e1]
  ac_rfl
 have e2:sumP (fun pl=>trs pl g*((ordN (stk b 0 .nil pl g).1:Int)*(prN g.szs:Int))) (g.bp 0)=(prN g.szs:Int)*sumP (fun pl=>trs pl g*(ordN (stk b 0 .nil pl g).1:Int)) (g.bp 0):=by
  rw [<- sumP_mul]
  exact sumP_ext fun r _=>by ac_rfl
 rw [e2] at this
 refine Int.eq_of_mul_eq_mul_left (a:=(prN g.szs:Int)) (by omega) ?_
 rw [this]
 have e3:=congrArg (fun z:Nat=>(z:Int)) (ordN_mul ho)
 simp only [Int.natCast_mul] at e3
 rw [Int.mul_comm,Int.mul_comm (prN g.szs:Int),e3]
 obtain ⟨m,em⟩:∃ m,g.size.toNat=m+1:=⟨g.size.toNat-1,by omega⟩
 rw [em,Nat.add_sub_cancel]
 show _=(((m+1)*fac m:Nat):Int)
 rw [Int.natCast_mul,Int.mul_comm,show g.size=((m+1:Nat):Int) by omega]
def up88:List Nat->List Nat
 | []=>[]
 | [a]=>[a]
 | a::c::r=>(a+1+(up88 (c::r)).headD 0)::up88 (c::r)
def Lv:List Nat->Gr->Prop
 | [],g=>g=.nil
 | a::r,g=>g.parts<=a/\∀ p ∈ g.ps,Lv r p.1.2
theorem Lv.head:∀ {as:List Nat} {g:Gr},Lv as g->g.parts<=as.headD 0
 | [],g,h=>by rw [show g=.nil from h]; exact Nat.le_refl _
 | a::r,g,h=>h.1
theorem Lv.deep:∀ {as:List Nat} {g:Gr},Lv as g->g.deep<=as.length
 | [],g,h=>by rw [show g=.nil from h]; exact Nat.le_refl _
 | a::r,g,h=>deep_le fun p hp=>by
  have:=Lv.deep (h.2 p hp)
  show _ < r.length+1
  omega
theorem Lv.up:∀ {as:List Nat} {g:Gr},Lv as g->Lv (up88 as) g
 | [],g,h=>h
 | [a],g,h=>h
 | a::c::r,g,h=>⟨by have:=h.1; show g.parts<=a+1+_; omega,fun p hp=>Lv.up (h.2 p hp)⟩
theorem Lv.stk {ns:Unit}:∀ {pl:Pl} {as:List Nat} {g:Gr} {k:Str},Lv as g->bareAt g pl=some k->Lv (up88 as) (stk b 0 .nil pl g).1
 | [],_,_,_,_,h=>nomatch h
 | i::r,[],g,k,hl,h=>by
  rw [show g=.nil from hl] at h
  cases h
 | i::r,a::as,g,k,hl,h=>by
  by_cases hr:r=[]
  ·subst hr
   obtain ⟨p,e,_⟩:=bare_one h
   rw [stk_one e]
   refine Lv.up (as:=a::as) ⟨?_,fun q hq=>?_⟩
   ·have h1:=tgt_parts (wo g p.1 1) .nil
    have h2:=wo_parts g p.1 1
    have h3:=hl.1
    have h4:(Gr.nil).parts=0:=rfl
    show (tgt (wo g p.1 1) .nil).parts<=a
    omega
   ·rw [show (tgt (wo g p.1 1) .nil,([]:Pl)).1=tgt (wo g p.1 1) .nil from rfl,tgt_ps] at hq
    obtain ⟨q2,hq2,e2⟩:=z17 (enc:=tEnc) _ q hq
    rw [<- e2]
    rcases List.mem_append.mp hq2 with hq2 | hq2
    ·rw [wo_ps] at hq2
     obtain ⟨q3,hq3,e3⟩:=woL_key hq2
     rw [<- e3]
     exact hl.2 q3 hq3
    ·cases hq2
  ·obtain ⟨p,e,h2⟩:=bare_more hr h
   have pm:=List.mem_of_getElem? e
   cases as with
   | nil =>
    have:=hl.2 p pm
    rw [show p.1.2=.nil from this] at h2
    cases r with
    | nil=>exact absurd rfl hr
    | cons j r=>cases h2
   | cons c as =>
    have ih:=Lv.stk (ns:=ns) (hl.2 p pm) h2
    rw [stk_more e hr]
    refine ⟨?_,fun q hq=>?_⟩
    ·have h1:=tgt_parts (wo g p.1 1) (one (chg b 0 .nil r p) (1+b.far p.1.1 0))
     have h2:=wo_parts g p.1 1
     have h3:=hl.1
     have h4:(one (chg b 0 .nil r p) (1+b.far p.1.1 0)).parts=1+(Gr.stk b 0 .nil r p.1.2).1.parts+0:=rfl
     have h5:=ih.head
     show (tgt (wo g p.1 1) (one (chg b 0 .nil r p) (1+b.far p.1.1 0))).parts<=a+1+_
     omega
    ·have hq:q ∈ (tgt (wo g p.1 1) (one (chg b 0 .nil r p) (1+b.far p.1.1 0))).ps:=hq
     rw [tgt_ps] at hq
     obtain ⟨q2,hq2,e2⟩:=z17 (enc:=tEnc) _ q hq
     rw [<- e2]
     rcases List.mem_append.mp hq2 with hq2 | hq2
     ·rw [wo_ps] at hq2
      obtain ⟨q3,hq3,e3⟩:=woL_key hq2
      rw [<- e3]
      exact Lv.up (hl.2 q3 hq3)
     ·rw [one_ps,List.mem_singleton] at hq2
      rw [hq2]
      exact ih
def dn88:Nat->Nat->List Nat
 | 0,_=>[]
 | n+1,m=>m::dn88 n (m-1)
def lv88:Nat->List Nat
 | 0=>dn88 4 12
 | j+1=>up88 (lv88 j)
/-- behind j falls -/
structure At88 (ns:List Str) (j:Nat) (g:Gr):Prop where
 lv:Lv (lv88 j) g
 ok:g.Ok (60*10 ^ 58+1+3*j)
 nm:Named ns g
theorem At88.step {ns:List Str} {j:Nat} {g:Gr} {pl:Pl} {k:Str} (h:At88 ns j g) (hb:bareAt g pl=some k):At88 ns (j+1) (Gr.stk b 0 .nil pl g).1 :=
 ⟨h.lv.stk (ns:=()) hb,(stk_ok (b:=b) (fr:=.nil) (F:=1) (Int.le_refl 0) (by decide) trivial h.ok hb).mono (by push_cast; omega),stk_named (fun x hx=>absurd hx nmn) hb h.nm⟩
theorem lv88_len:∀ j,j < 7->(lv88 j).length=4/\(lv88 j).headD 0<=1000:=by decide
end Gr
theorem z99 {l:List Str} (h:∀ (i j:Nat) (a:Str),l[i]?=some a->l[j]?=some a->i=j):l.Nodup:=by
 refine List.pairwise_iff_getElem.mpr fun i j hi hj hij e=>?_
 have:=h i j l[i] (List.getElem?_eq_getElem hi) (by rw [List.getElem?_eq_getElem hj,e])
 omega
theorem za9 {l:List Str} (t:Nat) (h:l.Nodup):(l.drop t++l.take t).Nodup:=by
 have:(l.drop t++l.take t).Perm l:=List.perm_append_comm.trans (by rw [List.take_append_drop])
 exact this.nodup_iff.mpr h
def z65 (K:PySem.W.Frag):Sp:=fun vs H Q _=>∃ (a n:Addr) (ns:List Int) (ks:List Str) (f m l:Nat) (c:Int),vs=[.ref a,.int (f:Int),.int (m:Int),.ref n,.int c,.int (l:Int)]/\SqL K H a (ns.map V.int)/\ns.length<=63/\H n=some (.lst (ks.map V.str))/\1<=ks.length/\ks.length<=8/\(∀ k ∈ ks,z01 k)/\f<=100/\m<=60/\1<=l/\l<=12/\1<=c/\c<=10 ^ 58 /\
 ∀ (v:V) (g:Gr) (H':Hp),SB [] H H'->GA K H' v g->g.Ok (60*10 ^ 58+1)->g.parts<=m->g.deep<=l->Gr.Named ks g->Q v H'
theorem Gr.named_tidy {ns:List Str} {bs:List (Tr × Int)} (h:∀ p ∈ bs,p.1.1 ∈ ns/\Gr.Named ns p.1.2):Gr.Named ns (Gr.tidy bs):=Gr.named_iff.mpr fun p hp=>by
 rw [Gr.tidy,Gr.ps_ofPs] at hp
 obtain ⟨q,hq,e⟩:=z17 (enc:=Gr.tEnc) _ p hp
 rw [<- e]
 exact h q hq
theorem Gr.At88.size {ns:List Str} {j:Nat} {g:Gr} (h:Gr.At88 ns j g) (hj:j<=6):g.deep<=4/\g.parts<=1000/\g.Ok (2 ^ 199):=by
 obtain ⟨h1,h2⟩:=Gr.lv88_len j (by omega)
 have h3:=h.lv.deep
 have h4:=h.lv.head
 refine ⟨by omega,by omega,h.ok.mono ?_⟩
 have:(60*10 ^ 58+1+3*6:Int)<=2 ^ 199:=by decide
 omega
theorem zfz:∀ r:Nat,r < 26->abc.cps.toList[r]?=some (97+r):=by
 have:∀ r:Fin 26,abc.cps.toList[r.val]?=some (97+r.val):=by decide +kernel
 intro r hr
 exact this ⟨r,hr⟩
theorem zfe {A B s t:Str} (h:A++s++B=A++t++B):s.cps.toList=t.cps.toList:=by
 have e:∀ x:Str,(A++x++B).cps.toList=A.cps.toList++x.cps.toList++B.cps.toList:=fun x=>by show (A.cps++x.cps++B.cps).toList=_; simp
 have h2:=congrArg (fun z:Str=>z.cps.toList) h
 simp only [e] at h2
 exact List.append_cancel_left (List.append_cancel_right h2)
theorem Gr.bp_some {C:Int} {g:Gr} (ho:g.Ok C) (hn:g ≠ .nil):1<=(g.bp 0).length:=by
 have h1:=Gr.ord_sum (b:=[]) ho hn
 have h2:=Gr.ordN_mul ho
 have h3:=z9m g.size.toNat
 cases e:g.bp 0 with
 | cons p r=>simp
 | nil =>
  rw [e] at h1
  have h1:(0:Int)=(g.ordN:Int):=h1
  have h4:g.ordN=0:=by omega
  rw [h4,Nat.zero_mul] at h2
  omega
/-- a begin of a grove,with lesser numbers -/
inductive Low:Gr->Gr->Prop
 | nil {g:Gr}:Low .nil g
 | cons {k:Str} {h r s:Gr} {m n:Int}:1<=m->m<=n->Low r s->Low (.cons k h m r) (.cons k h n s)
/-- a book and one with a rule more: of the kind at u -/
structure More (b c:Bk) (u:Nat) (below:Bool):Prop where
 ok:c.Ok
 few:∀ k ∈ c,∀ r ∈ k.rs,r.1.parts+r.2.parts<=3
 is:∃ (k:Kd) (i:Nat) (r:Ru),b[u]?=some k/\c=b.set u ⟨k.n,k.w,k.rs.take i++[r]++k.rs.drop i⟩/\(below=true->∃ s ∈ k.rs,Low r.1 s.1/\Low r.2 s.2)
theorem Low.ok {C:Int}:∀ {t g:Gr},Low t g->g.Ok C->t.Ok C/\∀ p ∈ t.ps,∃ q ∈ g.ps,q.1=p.1:=by
 intro t g h
 induction h with
 | nil=>exact fun _=>⟨trivial,fun p hp=>nomatch hp⟩
 | @cons k h r s m n h1 h2 _ ih =>
  rintro ⟨a,b,c,d,e,f⟩
  obtain ⟨i1,i2⟩:=ih e
  refine ⟨⟨a,b,h1,by omega,i1,fun p hp=>?_⟩,fun p hp=>?_⟩
  ·obtain ⟨q,hq,eq⟩:=i2 p hp
   rw [<- eq]; exact f q hq
  ·rcases List.mem_cons.mp hp with e | hp
   ·exact ⟨((k,h),n),mcs ..,by rw [e]⟩
   ·obtain ⟨q,hq,eq⟩:=i2 p hp
    exact ⟨q,mcm _ hq,eq⟩
theorem Low.parts {t g:Gr} (h:Low t g):t.parts<=g.parts:=by
 induction h with
 | nil=>exact Nat.zero_le _
 | @cons k h r s m n _ _ _ ih=>show 1+h.parts+r.parts<=1+h.parts+s.parts; omega
theorem Low.within {t g:Gr} (h:Low t g):∀ x ∈ t.within,∃ y ∈ g.within,y.1=x.1:=by
 induction h with
 | nil=>exact fun x hx=>absurd hx nmn
 | @cons k h r s m n _ _ _ ih =>
  intro x hx
  rcases List.mem_cons.mp hx with e | hx
  ·exact ⟨((k,h),n),mcs ..,by rw [e]⟩
  ·rcases List.mem_append.mp hx with hx | hx
   ·exact ⟨x,mcm _ (mal _ hx),rfl⟩
   ·obtain ⟨y,hy,e⟩:=ih x hx
    exact ⟨y,mcm _ (mar _ hy),e⟩
theorem za4:∀ {b:Bk} {u:Nat} {k k':Kd},b[u]?=some k->k'.n=k.n->b.names.Nodup->∀ n,Bk.get (b.set u k') n=if n=k.n then some k' else b.get n
 | [],u,k,k',h,_,_,n=>by simp at h
 | x::r,0,k,k',h,e,nd,n=>by
  have hx:x=k:=by simpa using h
  subst hx
  show Bk.get (k'::r) n=_
  unfold Bk.get
  rw [List.find?_cons,List.find?_cons]
  by_cases hn:n=x.n
  ·rw [if_pos hn,decide_eq_true (show k'.n=n by rw [e,hn])]
  ·rw [if_neg hn,decide_eq_false (show ¬ k'.n=n from fun z=>hn (by rw [<- z,e])),decide_eq_false (show ¬ x.n=n from fun z=>hn z.symm)]
 | x::r,u+1,k,k',h,e,nd,n=>by
  have h':r[u]?=some k:=by simpa using h
  have nd':x.n ∉ Bk.names r/\(Bk.names r).Nodup:=List.nodup_cons.mp nd
  have ih:=za4 (k':=k') h' e nd'.2 n
  have km:k.n ∈ Bk.names r:=List.mem_map.mpr ⟨k,List.mem_of_getElem? h',rfl⟩
  show Bk.get (x::r.set u k') n=_
  unfold Bk.get at ih ⊢
  rw [List.find?_cons,List.find?_cons]
  by_cases hx:x.n=n
  ·rw [decide_eq_true hx]
   have:n ≠ k.n:=fun z=>nd'.1 (by rw [hx,z]; exact km)
   rw [if_neg this]
  ·rw [decide_eq_false hx]
   exact ih
namespace More
variable {b c:Bk} {u:Nat} {w:Bool}
/-- what a rule more leaves -/
theorem facts (ok:b.Ok) (h:More b c u w):∃ (k k':Kd) (r:Ru),b.get k.n=some k/\k ∈ b/\k'.n=k.n/\k'.w=k.w/\c.names=b.names/\(∀ n,c.get n=if n=k.n then some k' else b.get n)/\(∀ x,x ∈ k'.rs ↔ x ∈ k.rs\/x=r)/\(w=true->∃ s ∈ k.rs,Low r.1 s.1/\Low r.2 s.2)/\b[u]?=some k:=by
 obtain ⟨k,i,r,hk,rfl,hw⟩:=h.is
 have km:=List.mem_of_getElem? hk
 refine ⟨k,⟨k.n,k.w,k.rs.take i++[r]++k.rs.drop i⟩,r,Bk.get_self ok.nd km,km,rfl,rfl,z7i hk rfl,za4 hk rfl ok.nd,fun x=>?_,hw,hk⟩
 show x ∈ k.rs.take i++[r]++k.rs.drop i ↔ _
 have e:x ∈ k.rs ↔ x ∈ k.rs.take i\/x ∈ k.rs.drop i:=by
  conv=>lhs; rw [<- List.take_append_drop i k.rs]
  exact List.mem_append
 rw [List.mem_append,List.mem_append,List.mem_singleton,e]
 constructor
 ·rintro ((h | h) | h)
  ·exact .inl (.inl h)
  ·exact .inr h
  ·exact .inl (.inr h)
 ·rintro ((h | h) | h)
  ·exact .inl (.inl h)
  ·exact .inr h
  ·exact .inl (.inr h)
theorem wide (ok:b.Ok) (h:More b c u w):∀ n,b.wide n=c.wide n:=fun n=>by
 obtain ⟨k,k',r,g1,km,e1,e2,_,g2,_⟩:=h.facts ok
 unfold Bk.wide
 rw [g2 n]
 by_cases hn:n=k.n
 ·rw [if_pos hn,hn,g1]; exact e2.symm
 ·rw [if_neg hn]
theorem adj_sub (ok:b.Ok) (h:More b c u w) {n x:Str} (hx:x ∈ adj b n):x ∈ adj c n:=by
 obtain ⟨k,k',r,g1,km,e1,e2,_,g2,hr,_⟩:=h.facts ok
 by_cases hn:n=k.n
 ·have gc:c.get n=some k':=by rw [g2 n,if_pos hn]
  rw [z5h gc]
  rw [hn,z5h g1] at hx
  obtain ⟨s,hs,hx⟩:=List.mem_flatMap.mp hx
  exact List.mem_flatMap.mpr ⟨s,(hr s).mpr (.inl hs),hx⟩
 ·unfold adj at hx ⊢
  rw [g2 n,if_neg hn]; exact hx
theorem rch (ok:b.Ok) (h:More b c u w) {n x:Str} (hr:Rch b n x):Rch c n x:=by
 induction hr with
 | one g=>exact .one (h.adj_sub ok g)
 | step _ g ih=>exact .step ih (h.adj_sub ok g)
theorem max_le {x:Lad} {l1 l2:List Lad} (h:∀ a ∈ l1,∃ b ∈ l2,Lad.Le a b):Lad.Le (Lad.maxL x l1) (Lad.maxL x l2):=by
 rcases List.mem_cons.mp (Lad.maxL_mem l1 x) with e | e
 ·rw [e]; exact Lad.maxL_ge l2 x x (mcs ..)
 ·obtain ⟨b,hb,hl⟩:=h _ e
  exact hl.trans (Lad.maxL_ge l2 x b (mcm _ hb))
end More
/-- the sorts by number -/
def srtI (s:Str):Nat:=if s="number" then 0 else if s="pair" then 1 else if s="power" then 2 else 3
def nix (ρ:Str->Lad) (n:Str):Int:=(srtI (ρ n).sortT:Nat)
def Need (b:Bk) (ρ:Str->Lad) (s n:Str):Prop:=∃ j:Nat,b.names[j]?=some n/\s=(ρ n).sortT/\(∀ x ∈ b.names,nix ρ x<=nix ρ n)/\∀ (i:Nat) (x:Str),i < j->b.names[i]?=some x->nix ρ x ≠ nix ρ n
theorem Need.uniq {b:Bk} {ρ:Str->Lad} {s n s' n':Str} (h:Need b ρ s n) (h':Need b ρ s' n'):s=s'/\n=n':=by
 obtain ⟨j,e1,e2,h1,h2⟩:=h
 obtain ⟨j',f1,f2,g1,g2⟩:=h'
 have a1:=h1 n' (List.mem_of_getElem? f1)
 have a2:=g1 n (List.mem_of_getElem? e1)
 have hj:j=j':=by
  rcases Nat.lt_trichotomy j j' with z | z | z
  ·exact absurd (show nix ρ n=nix ρ n' by omega) (g2 j n z e1)
  ·exact z
  ·exact absurd (show nix ρ n'=nix ρ n by omega) (h2 j' n' z f1)
 subst hj
 rw [e1] at f1
 cases f1
 exact ⟨e2.trans f2.symm,rfl⟩
def CAP:Int:=1000000000000000000000000000000000000000000000000000000000000000000000000000000000000000000000000000000000000000000000000000000000000000000000000000000000000000000000000000000000000000000000000000000000000000000000000000000000000000000000000000000000000000000000000000000000000000000000000000000000000
theorem z1w:1 < CAP:=by unfold CAP; decide
def capI (x:Int):Int:=if x<=CAP then x else CAP
theorem z30 (x:Int):capI x<=CAP:=by unfold capI; split <;> omega
theorem z0o {x:Int} (h:x<=CAP):capI x=x:=if_pos h
theorem z41 {x:Int} (h:CAP<=x):capI x=CAP:=by unfold capI; split <;> omega
theorem z12 {x:Int} (h:0<=x):0<=capI x:=by
 have:=z1w
 unfold capI; split <;> omega
theorem zcz {x:Int} (h:1<=x):1<=capI x:=by
 have:=z1w
 unfold capI; split <;> omega
/-- one turn of a spreading tree -/
def spF (b m:Int):Int:=1+(1+b)*m
def itF (b:Int):Nat->Int->Int
 | 0,m=>m
 | k+1,m=>itF b k (spF b m)
theorem z4r {b m:Int} (hb:0<=b) (hm:0<=m):m+1<=spF b m:=by
 unfold spF
 have h:0<=b*m:=Int.mul_nonneg hb hm
 rw [Int.add_mul,Int.one_mul]
 omega
theorem z2z {b:Int} (hb:0<=b):∀ (k:Nat) {m:Int},0<=m->m<=itF b k m
 | 0,m,_=>Int.le_refl _
 | k+1,m,hm=>by
  have h1:=z4r hb hm
  have h2:=z2z hb k (m:=spF b m) (by omega)
  show m<=itF b k (spF b m)
  omega
def spcI (own inner b:Int):Int:=if b=0 then capI (own+inner) else capI (itF b inner.toNat own)
def cofI (w:Bool) (o i b:Int):Int:=if w=true then spcI o i b else capI (o+i)
theorem z7a {w:Bool} {o i b:Int} (ho:0<=o) (hi:0<=i) (hb:0<=b):0<=cofI w o i b/\cofI w o i b<=CAP:=by
 unfold cofI spcI
 split
 ·split
  ·exact ⟨z12 (by omega),z30 _⟩
  ·exact ⟨z12 (by have:=z2z hb i.toNat ho; omega),z30 _⟩
 ·exact ⟨z12 (by omega),z30 _⟩
namespace Gr
/-- the count of a grove,as long as it is not cut down -/
def cu (b:Bk) (κ:Str->Int) (d:Int):Gr->Int
 | .nil=>0
 | .cons k g m r=>m*cofI (b.wide k) (κ k) (capI (cu b κ d g)) d+cu b κ d r
def cin (b:Bk) (κ:Str->Int) (d:Int) (g:Gr):Int:=capI (cu b κ d g)
def cot (b:Bk) (κ:Str->Int) (d:Int) (t:Tr):Int:=cofI (b.wide t.1) (κ t.1) (cin b κ d t.2) d
variable {b:Bk} {κ:Str->Int} {d:Int}
theorem cu_ps:∀ g:Gr,cu b κ d g=(g.ps.map fun p=>p.2*cot b κ d p.1).sum
 | .nil=>rfl
 | .cons k g m r=>by
  show m*cofI (b.wide k) (κ k) (capI (cu b κ d g)) d+cu b κ d r=(((k,g),m)::r.ps |>.map fun p:Tr × Int=>p.2*cot b κ d p.1).sum
  rw [List.map_cons,List.sum_cons,<- cu_ps r]
  rfl
theorem cu_nn (hk:∀ n,0<=κ n) (hd:0<=d) {C:Int}:∀ {g:Gr},g.Ok C->0<=cu b κ d g
 | .nil,_=>Int.le_refl _
 | .cons k g m r,h=>by
  obtain ⟨_,hg,hm1,_,hr,_⟩:=h
  have h1:=cu_nn hk hd hg
  have h2:=cu_nn hk hd hr
  have h3:=(z7a (w:=b.wide k) (hk k) (z12 h1) hd).1
  have h4:=Int.mul_nonneg (show 0<=m by omega) h3
  show 0<=m*cofI (b.wide k) (κ k) (capI (cu b κ d g)) d+cu b κ d r
  omega
theorem cin_nn (hk:∀ n,0<=κ n) (hd:0<=d) {C:Int} {g:Gr} (h:g.Ok C):0<=cin b κ d g/\cin b κ d g<=CAP:=⟨z12 (cu_nn hk hd h),z30 _⟩
theorem cu_congr {κ':Str->Int}:∀ {g:Gr},(∀ x ∈ g.within,κ x.1.1=κ' x.1.1)->cu b κ d g=cu b κ' d g
 | .nil,_=>rfl
 | .cons k g m r,h=>by
  show m*cofI (b.wide k) (κ k) (capI (cu b κ d g)) d+cu b κ d r=m*cofI (b.wide k) (κ' k) (capI (cu b κ' d g)) d+cu b κ' d r
  rw [h ((k,g),m) (mcs ..),cu_congr fun x hx=>h x (mcm _ (mal _ hx)),cu_congr fun x hx=>h x (mcm _ (mar _ hx))]
end Gr
/-- a dict of counts -/
def CntD (H:Hp) (d:Addr) (κ:Str->Int) (ns:List Str):Prop:=H d=some (.dK (ns.map fun n=>((Sum.inr n:Key),V.int (κ n))))
theorem z9u {κ:Str->Int} {n:Str}:∀ {ns:List Str},n ∈ ns->valV (ns.map fun n=>((Sum.inr n:Key),V.int (κ n))) (Sum.inr n)=some (.int (κ n))
 | [],h=>nomatch h
 | a::r,h=>by
  by_cases e:a=n
  ·subst e
   simp [valV]
  ·have hn:n ∈ r:=by
    rcases List.mem_cons.mp h with z | z
    ·exact absurd z.symm e
    ·exact z
   have ih:=z9u (κ:=κ) hn
   unfold valV at ih ⊢
   rw [List.map_cons,List.find?_cons]
   have:decide ((Sum.inr a:Key)=Sum.inr n)=false:=decide_eq_false fun z=>e (Sum.inr.inj z)
   simp only [this]
   exact ih
theorem CntD.val {H:Hp} {d:Addr} {κ:Str->Int} {ns:List Str} {n:Str} (h:CntD H d κ ns) (hn:n ∈ ns):DGet H d (.str n) (some (.int (κ n))):=getK h (z9u hn)
theorem CntD.sb {H H':Hp} {d:Addr} {κ:Str->Int} {ns:List Str} {ps:List Addr} (h:CntD H d κ ns) (s:SB ps H H') (hd:d ∉ ps):CntD H' d κ ns:=s.keep _ _ h hd
theorem CntD.sb0 {H H':Hp} {d:Addr} {κ:Str->Int} {ns:List Str} (h:CntD H d κ ns) (s:SB [] H H'):CntD H' d κ ns:=h.sb s nmn
theorem CntD.put {H:Hp} {d:Addr} {κ:Str->Int} {ns:List Str} {n:Str} (h:CntD H d κ ns) (hn:n ∉ ns) (hl:ns.length<=1000):∃ H',DPut H d (.str n) (.int (κ n)) H'/\SB [d] H H'/\CntD H' d κ (ns++[n]):=by
 have szl:=sizeLine_eq
 have t:=SB.setD (ps:=[d]) h (by simp) (.dK (putK (ns.map fun n=>((Sum.inr n:Key),V.int (κ n))) (Sum.inr n) (.int (κ n))))
 have e:putK (ns.map fun n=>((Sum.inr n:Key),V.int (κ n))) (Sum.inr n) (.int (κ n))=(ns++[n]).map fun n=>((Sum.inr n:Key),V.int (κ n)):=by
  rw [z1j fun p hp z=>?_,List.map_append]
  ·rfl
  ·obtain ⟨m,hm,rfl⟩:=List.mem_map.mp hp
   exact hn (by rw [<- Sum.inr.inj z]; exact hm)
 refine ⟨_,DPut.k (k:=Sum.inr n) h (by rw [List.length_map]; omega),t,?_⟩
 unfold CntD
 rw [upd_same,e]
def lmx (l:List Int):Int:=l.foldr max 0
theorem zaz:∀ {l:List Int} {x:Int},x ∈ l->x<=lmx l
 | a::r,x,h=>by
  show x<=max a (lmx r)
  rcases List.mem_cons.mp h with e | h
  ·omega
  ·have:=zaz h; omega
theorem z8i:∀ l:List Int,0<=lmx l
 | []=>Int.le_refl _
 | a::r=>by have:=z8i r; show 0<=max a (lmx r); omega
def z1e (b:Bk) (d:Int) (κ:Str->Int) (r:Ru):Int:=Gr.cin b κ d r.1+d*Gr.cin b κ d r.2
theorem zce (b:Bk) (d:Int) (κ:Str->Int):z1e b d κ (.nil,.nil)=0:=by
 have e:Gr.cin b κ d .nil=0:=z0o (by have:=z1w; show (0:Int)<=CAP; omega)
 unfold z1e
 rw [e,Int.mul_zero]; rfl
theorem z9g {b:Bk} {d:Int} {κ κ':Str->Int} {r:Ru} (h:∀ x ∈ Ru.within r,κ x.1.1=κ' x.1.1):z1e b d κ r=z1e b d κ' r:=by
 unfold z1e Gr.cin
 rw [Gr.cu_congr fun x hx=>h x (mal _ hx),Gr.cu_congr fun x hx=>h x (mar _ hx)]
open Classical in
noncomputable def cntF (b:Bk) (d:Int) (n:Str) (rec:∀ k,z1l b k n->Int):Int:=capI (1+lmx ((b.rules n).map (z1e b d fun k=>if h:z1l b k n then rec k h else 0)))
noncomputable def z0k (b:Bk) (d:Int):Str->Int:=(z8a b).fix (cntF b d)
open Classical in
theorem z4b (b:Bk) (d:Int) (n:Str):1<=z0k b d n/\z0k b d n<=CAP:=by
 unfold z0k
 rw [WellFounded.fix_eq]
 unfold cntF
 exact ⟨zcz (Int.le_add_of_nonneg_right (z8i _)),z30 _⟩
open Classical in
theorem zd8 {b:Bk} {d:Int} (ok:b.Ok) {k:Kd} (hk:k ∈ b) (he:EndK b k.n):z0k b d k.n=capI (1+lmx (k.rs.map (z1e b d (z0k b d)))):=by
 unfold z0k
 rw [WellFounded.fix_eq]
 unfold cntF
 have er:b.rules k.n=k.rs:=by unfold Bk.rules; rw [Bk.get_self ok.nd hk]
 rw [er]
 congr 3
 refine List.map_congr_left fun r hr=>z9g fun x hx=>?_
 have hl:z1l b x.1.1 k.n:=⟨by rw [z10 ok hk]; exact z0s hr hx,he⟩
 rw [dif_pos hl]
/-- a bound on what is said -/
def Dok (D:Int):Prop:=0<=D/\D < 2 ^ 1000
theorem zf0 {x y:Int} (hx:x.natAbs < 2 ^ 2000) (hy:y.natAbs < 2 ^ 2000):CMulW x y:=by
 unfold CMulW
 have f:∀ z:Int,z.natAbs < 2 ^ 2000->z.natAbs.log2 < 2000:=fun z hz=>by
  by_cases h:z.natAbs=0
  ·rw [h]; decide
  ·exact (Nat.log2_lt h).mpr hz
 have h1:=f x hx
 have h2:=f y hy
 omega
theorem z9c {x:Int} (h0:0<=x) (h:x<=CAP):x.natAbs < 2 ^ 2000:=by
 have h1:CAP < 2 ^ 2000:=by unfold CAP; decide +kernel
 have h2:((2 ^ 2000:Nat):Int)=2 ^ 2000:=by rw [Int.natCast_pow]; rfl
 omega
theorem Dok.bits1 {D:Int} (h:Dok D):(1+D).natAbs < 2 ^ 2000:=by
 obtain ⟨h0,h1⟩:=h
 have h3:(2:Int) ^ 1000+1 < 2 ^ 2000:=by decide +kernel
 have h2:((2 ^ 2000:Nat):Int)=2 ^ 2000:=by rw [Int.natCast_pow]; rfl
 omega
def z6z:Sp:=fun vs H Q _=>∃ x:Int,vs=[.int x]/\∀ H',SB [] H H'->Q (.int (capI x)) H'
def z4s (N:Addr):Sp:=fun vs H Q E=>∃ x:Int,vs=[.int x]/\(x < CAP->∀ H',SB [] H H'->Q .non H')/\(CAP<=x->∀ H',SB [] H H'->E (.ref N) none H')
def zan:Sp:=fun vs H Q _=>∃ o i b:Int,vs=[.int o,.int i,.int b]/\0<=o/\0<=i/\Dok b/\∀ H',SB [] H H'->Q (.int (spcI o i b)) H'
def z2e (K:PySem.W.Frag) (C:Addr) (n:Nat):Sp:=fun vs H Q _=>∃ (v w:V) (d:Addr) (b:Bk) (κ:Str->Int) (ns:List Str) (g:Gr) (D B:Int),vs=[v,.ref d,w,.int D]/\BkA K C H v b/\b.length<=1000/\CntD H d κ ns/\GA K H w g/\g.Ok B/\B<=2 ^ 1000/\g.deep < n/\g.parts<=100000/\(∀ x ∈ g.within,x.1.1 ∈ ns/\x.1.1 ∈ b.names)/\(∀ n,0<=κ n)/\Dok D/\∀ H',SB [] H H'->Q (.int (Gr.cin b κ D g)) H'
def z33 (K:PySem.W.Frag) (C:Addr) (n:Nat):Sp:=fun vs H Q _=>∃ (v t:V) (d:Addr) (b:Bk) (κ:Str->Int) (ns:List Str) (k:Str) (g:Gr) (D B:Int),vs=[v,.ref d,t,.int D]/\BkA K C H v b/\b.length<=1000/\CntD H d κ ns/\Dp K H t (Gr.tEnc (k,g))/\g.Ok B/\B<=2 ^ 1000/\g.deep < n/\g.parts<=100000/\(k ∈ ns/\k ∈ b.names)/\(∀ x ∈ g.within,x.1.1 ∈ ns/\x.1.1 ∈ b.names)/\(∀ n,0<=κ n)/\Dok D/\∀ H',SB [] H H'->Q (.int (Gr.cot b κ D (k,g))) H'
def z2o (K:PySem.W.Frag) (C N:Addr):Sp:=fun vs H Q E=>∃ (v w:V) (b:Bk) (g:Gr) (D B:Int),vs=[v,w,.int D]/\BkA K C H v b/\b.Ok/\GA K H w g/\g.Ok B/\B<=2 ^ 1000/\g.deep < 20/\g.parts<=2000/\Gr.Named b.names g/\Dok D/\(Gr.cin b (fun _=>1) D g < CAP->∀ H',SB [] H H'->Q (.int (Gr.cin b (fun _=>1) D g)) H')/\(CAP<=Gr.cin b (fun _=>1) D g->∀ H',SB [] H H'->E (.ref N) none H')
theorem zcb {b:Int} (hb:0<=b) {k:Nat} {m:Int} (hm:0<=m) (h:CAP<=m):capI (itF b k m)=CAP:=z41 (Int.le_trans h (z2z hb k hm))
theorem zci {P:Program} {w:World} {K:PySem.W.Frag} {mg:Str->Option Value} {base:Heap} {f:Addr} {fd:FuncData} {C:Addr} {ps:List Str} {k:Nat}:FnOk P w K mg base CX0 k f fd ps (z2e K C 0):=z1n fun vs H Q E ⟨_,_,_,_,_,_,_,_,_,_,_,_,_,_,_,_,h,_⟩=>by omega
namespace Gr
variable {C F:Int} {b:Bk} {n:Int}
/-- the parts of the first trees -/
def pts (ps:List (Tr × Int)):Nat:=(ps.map fun p=>1+p.1.2.parts).sum
end Gr
def potK (c:Addr) (a l s:Int):List (Key × V):=[(Sum.inr "cells",V.ref c),(Sum.inr "at",V.int a),(Sum.inr "left",V.int l),(Sum.inr "seed",V.int s)]
def PotA (H:Hp) (p:Addr):Prop:=∃ (c:Addr) (ns:List Int) (a l s:Int),H p=some (.dK (potK c a l s))/\H c=some (.lst (ns.map V.int))/\ns.length<=63/\0<=a/\a<=ns.length/\(0<=l/\l < 10 ^ 320)/\(0<=s/\s < 2 ^ 31)
theorem PotA.sb {H H':Hp} {p:Addr} (h:PotA H p) (e:SB [] H H'):PotA H' p:=by
 obtain ⟨c,ns,a,l,s,h1,h2,h3⟩:=h
 exact ⟨c,ns,a,l,s,e.keep _ _ h1 nmn,e.keep _ _ h2 nmn,h3⟩
theorem PotA.ne {H:Hp} {p q:Addr} (h:PotA H p) (hq:H q=none):p ≠ q:=fun z=>by
 obtain ⟨_,_,_,_,_,e,_⟩:=h
 rw [z,hq] at e; cases e
theorem PotA.some {H:Hp} {p:Addr} (h:PotA H p):H p ≠ none:=fun z=>by
 obtain ⟨_,_,_,_,_,e,_⟩:=h
 rw [z] at e; cases e
inductive Dro
 | fin (i:Nat) | man (i:Nat) | ex (i:Nat) (d:Dro)
deriving DecidableEq
namespace Dro
def enc:Dro->PyData
 | fin i=>.tuple [.str "end",.int (i:Nat)]
 | man i=>.tuple [.str "many",.int (i:Nat)]
 | ex i d=>.tuple [.str "exponent",.int (i:Nat),d.enc]
def deep:Dro->Nat
 | fin _=>1
 | man _=>1
 | ex _ d=>1+d.deep
def word:Dro->Str
 | fin _=>"end"
 | man _=>"many"
 | ex _ _=>"exponent"
def ix:Dro->Nat
 | fin i=>i
 | man i=>i
 | ex i _=>i
end Dro
def Lad.Nm (B:Int):Lad->Prop
 | .nil=>True
 | .cons e m r=>(e.Nm B/\1<=m/\m < B)/\r.Nm B
theorem Lad.nm_iff {B:Int}:∀ {ps:List (Lad × Int)},(Lad.ofPs ps).Nm B ↔ ∀ p ∈ ps,p.1.Nm B/\1<=p.2/\p.2 < B
 | []=>⟨fun _ p hp=>(nomatch hp),fun _=>trivial⟩
 | (e,m)::r=>by
  have ih:=Lad.nm_iff (B:=B) (ps:=r)
  constructor
  ·rintro ⟨h1,h2⟩ p hp
   rcases List.mem_cons.mp hp with hp | hp
   ·rw [hp]; exact h1
   ·exact ih.mp h2 p hp
  ·intro h
   exact ⟨h (e,m) (mcs ..),ih.mpr fun p hp=>h p (mcm _ hp)⟩
theorem Lad.Nm.at {B:Int} {l:Lad} (h:l.Nm B) {p:Lad × Int} (hp:p ∈ l.ps):p.1.Nm B/\1<=p.2/\p.2 < B:=by
 rw [<- Lad.ofPs_ps l] at h
 exact Lad.nm_iff.mp h p hp
inductive Ot (K:PySem.W.Frag) (H:Hp):V->Prop
 | non:Ot K H .non
 | bl (b:Bool):Ot K H (.bl b)
 | int (i:Int):Ot K H (.int i)
 | lst {a:Addr} {xs:List V}:SqL K H a xs->Ot K H (.ref a)
 | tup {a:Addr} {xs:List V}:SqT K H a xs->Ot K H (.ref a)
 | dct {a:Addr} {ks:List (Key × V)}:H a=some (.dK ks)->Ot K H (.ref a)
inductive Any (K:PySem.W.Frag) (H:Hp):V->Prop
 | non:Any K H .non
 | bl (b:Bool):Any K H (.bl b)
 | int (i:Int):Any K H (.int i)
 | str (s:Str):Any K H (.str s)
 | lst {a:Addr} {xs:List V}:H a=some (.lst xs)->Any K H (.ref a)
 | dct {a:Addr} {ks:List (Key × V)}:H a=some (.dK ks)->Any K H (.ref a)
 | tup {a:Addr} {xs:List V}:SqT K H a xs->(∀ x ∈ xs,Any K H x)->Any K H (.ref a)
theorem Any.sb {K:PySem.W.Frag} {H H':Hp} {v:V} (h:Any K H v) (s:SB [] H H'):Any K H' v:=by
 induction h with
 | non=>exact .non
 | bl b=>exact .bl b
 | int i=>exact .int i
 | str z=>exact .str z
 | lst e=>exact .lst (s.keep _ _ e nmn)
 | dct e=>exact .dct (s.keep _ _ e nmn)
 | tup h _ ih=>exact .tup (s.sqT h) ih
namespace Dro
def len:Dro->Nat
 | fin _=>2
 | man _=>2
 | ex _ _=>3
end Dro
inductive Nw (K:PySem.W.Frag) (H:Hp) (s:Str):V->Prop
 | str {t:Str}:t ≠ s->Nw K H s (.str t)
 | oth {x:V} {n:String}:TyX K H x (.type n)->kitB n "str"=some false->Ot K H x->Nw K H s x
inductive Nn (K:PySem.W.Frag) (H:Hp) (i:Int):V->Prop
 | int {j:Int}:j ≠ i->Nn K H i (.int j)
 | oth {x:V} {n:String} {b:Bool}:TyX K H x (.type n)->kitB n "int"=some b->(b=true->kitB n "bool"=some true)->Nn K H i x
inductive Lk (K:PySem.W.Frag) (H:Hp):Dro->V->Bool->Prop
 | no {d:Dro} {v:V} {n:String}:TyX K H v (.type n)->kitB n "tuple"=some false->Lk K H d v false
 | len {d:Dro} {a:Addr} {xs:List V}:SqT K H a xs->xs.length ≠ d.len->Lk K H d (.ref a) false
 | word {d:Dro} {a:Addr} {x:V} {xs:List V}:SqT K H a (x::xs)->xs.length+1=d.len->Nw K H d.word x->Lk K H d (.ref a) false
 | num {d:Dro} {a:Addr} {y:V} {xs:List V}:SqT K H a (.str d.word::y::xs)->xs.length+2=d.len->Nn K H d.ix y->Lk K H d (.ref a) false
 | fin {i:Nat} {a:Addr}:SqT K H a [.str "end",.int (i:Int)]->Lk K H (.fin i) (.ref a) true
 | man {i:Nat} {a:Addr}:SqT K H a [.str "many",.int (i:Int)]->Lk K H (.man i) (.ref a) true
 | ex {i:Nat} {d:Dro} {a:Addr} {y:V} {b:Bool}:SqT K H a [.str "exponent",.int (i:Int),y]->Lk K H d y b->Lk K H (.ex i d) (.ref a) b
section
variable {K:PySem.W.Frag} {H H':Hp}
theorem Ot.sb {v:V} (h:Ot K H v) (s:SB [] H H'):Ot K H' v:=by
 cases h with
 | non=>exact .non
 | bl b=>exact .bl b
 | int i=>exact .int i
 | lst e=>exact .lst (s.sqL nmn e)
 | tup e=>exact .tup (s.sqT e)
 | dct e=>exact .dct (s.keep _ _ e nmn)
theorem Lk.sb {d:Dro} {v:V} {b:Bool} (h:Lk K H d v b) (s:SB [] H H'):Lk K H' d v b:=by
 induction h with
 | no t k=>exact .no (z1h s (fun _ _=>nmn) t) k
 | len h l=>exact .len (s.sqT h) l
 | word h l w =>
  refine .word (s.sqT h) l ?_
  cases w with
  | str e=>exact .str e
  | oth t k o=>exact .oth (z1h s (fun _ _=>nmn) t) k (o.sb s)
 | num h l w =>
  refine .num (s.sqT h) l ?_
  cases w with
  | int e=>exact .int e
  | oth t k o=>exact .oth (z1h s (fun _ _=>nmn) t) k o
 | fin h=>exact .fin (s.sqT h)
 | man h=>exact .man (s.sqT h)
 | ex h _ ih=>exact .ex (s.sqT h) ih
/-- things that were laid,one behind the other -/
def AnyAll (K:PySem.W.Frag) (H:Hp) (xs:List V):Prop:=∀ x ∈ xs,Any K H x
theorem AnyAll.sb {xs:List V} (h:AnyAll K H xs) (s:SB [] H H'):AnyAll K H' xs:=fun x hx=>(h x hx).sb s
theorem AnyAll.nil:AnyAll K H []:=fun x hx=>by cases hx
theorem AnyAll.cons {x:V} {xs:List V} (h:Any K H x) (g:AnyAll K H xs):AnyAll K H (x::xs):=fun y hy=>by
 rcases List.mem_cons.mp hy with rfl | hy
 ·exact h
 ·exact g y hy
end
theorem AnyAll.cut {K:PySem.W.Frag} {H:Hp} {xs:List V} (h:AnyAll K H xs) (lo hi:Option Int):AnyAll K H (cutV xs lo hi):=fun x hx=>by
 unfold cutV at hx
 exact h x (List.mem_of_mem_drop (List.mem_of_mem_take hx))
/-- what is known while things are laid -/
structure Mk51 (K:PySem.W.Frag) (H:Hp) (A:Addr) (ts:List V) (R:Addr) (rs:List V) (D:List V):Prop where
 hA:SqT K H A ts
 hR:SqT K H R rs
 aT:AnyAll K H ts
 aR:AnyAll K H rs
 D:AnyAll K H D
 lR:rs.length<=3
theorem Mk51.sb {K:PySem.W.Frag} {H H':Hp} {A:Addr} {ts:List V} {R:Addr} {rs:List V} {D:List V} (h:Mk51 K H A ts R rs D) (s:SB [] H H'):Mk51 K H' A ts R rs D :=
 ⟨s.sqT h.hA,s.sqT h.hR,h.aT.sb s,h.aR.sb s,h.D.sb s,h.lR⟩
theorem Mk51.add {K:PySem.W.Frag} {H:Hp} {A:Addr} {ts:List V} {R:Addr} {rs:List V} {D:List V} (h:Mk51 K H A ts R rs D) {x:V} (g:Any K H x):Mk51 K H A ts R rs (x::D) :=
 ⟨h.hA,h.hR,h.aT,h.aR,AnyAll.cons g h.D,h.lR⟩
theorem z96 {Pd:Str->Prop} {bs:List (Tr × Int)} (h:∀ p ∈ bs,Pd p.1.1/\∀ x ∈ p.1.2.within,Pd x.1.1):∀ x ∈ (Gr.tidy bs).within,Pd x.1.1:=fun x hx=>by
 rw [Gr.within_ps] at hx
 obtain ⟨p,hp,hx⟩:=List.mem_flatMap.mp hx
 unfold Gr.tidy at hp
 rw [Gr.ps_ofPs] at hp
 obtain ⟨q,hq,e⟩:=z17 _ p hp
 obtain ⟨h1,h2⟩:=h q hq
 rcases List.mem_cons.mp hx with rfl | hx
 ·rw [<- e]; exact h1
 ·rw [<- e] at hx; exact h2 x hx
def z8k (K:PySem.W.Frag):Sp:=fun vs H Q _=>∃ (p n:Addr) (ks:List Str) (m l:Nat) (c cc:Int),vs=[.ref p,.ref n,.int (m:Int),.int c,.int (l:Int)]/\PuG H p/\H n=some (.lst (ks.map V.str))/\n ≠ p/\1<=ks.length/\ks.length<=8/\(∀ k ∈ ks,z01 k)/\m<=60/\1<=l/\l<=12/\1<=c/\2<=cc/\c<=cc/\cc<=10 ^ 58 /\
 ∀ (v:V) (g:Gr) (H':Hp),SB [p] H H'->PuG H' p->GA K H' v g->g.Ok (60*cc+1)->g.parts<=m->g.deep<=l->(∀ x ∈ g.within,x.1.1 ∈ ks)->(1<=m->g ≠ .nil)->Q v H'
def z69 (K:PySem.W.Frag):Sp:=fun vs H Q _=>∃ (p:Addr) (M:Nat),vs=[.ref p,.int (M:Int)]/\PuG H p/\1<=M/\M<=8/\∀ (n:Addr) (ks:List Str) (H':Hp),SB [p] H H'->PuG H' p->H n=none->H' n=some (.lst (ks.map V.str))->1<=ks.length->ks.length<=M->(∀ k ∈ ks,z01 k)->ks.Nodup->Q (.ref n) H'
/-- kinds in a row; where rounds are not let in,their rules are of kinds later in the row -/
def Later (ks:List Str) (b:Bk):Prop:=∀ k ∈ b,∀ j,ks[j]?=some k.n->∀ r ∈ k.rs,∀ x ∈ Ru.within r,x.1.1 ∈ ks.drop (j+1)
def z6f (K:PySem.W.Frag):Sp:=fun vs H Q _=>∃ (a:Addr) (f0:Nat) (nl:Addr) (ns:List Int) (ks:List Str) (c cc:Int) (rd:Bool),vs=[.ref a,.int (f0:Int),.ref nl,.int c,.bl rd]/\(SqL K H a (ns.map V.int)/\ns.length<=63/\f0<=900)/\(H nl=some (.lst (ks.map V.str))/\1<=ks.length/\ks.length<=8/\ks.Nodup/\∀ k ∈ ks,z01 k)/\1<=c/\2<=cc/\c<=cc/\cc<=16000000 /\
 ∀ (L:Addr) (xs:List V) (b:Bk) (H':Hp),SB [] H H'->H L=none->H' L=some (.lst xs)->KdAll K H' [L] xs b->b.Ok->b.names=ks->(∀ k ∈ b,∀ r ∈ k.rs,(r.1.Ok (60*cc+1)/\r.1.deep<=3)/\(r.2.Ok (60*cc+1)/\r.2.deep<=3))->(rd=false->Later ks b)->Q (.ref L) H'
theorem z7g {b:Int} (hb:0<=b):∀ (k:Nat) {m:Int},0<=m->m+k<=itF b k m
 | 0,m,_=>by show m+((0:Nat):Int)<=m; omega
 | k+1,m,hm=>by
  have h1:=z4r hb hm
  have h2:=z7g hb k (m:=spF b m) (by omega)
  show m+((k+1:Nat):Int)<=itF b k (spF b m)
  omega
theorem z3b {b:Int}:∀ (k:Nat) (m:Int),itF b (k+1) m=spF b (itF b k m)
 | 0,m=>rfl
 | k+1,m=>by
  show itF b (k+1) (spF b m)=spF b (itF b k (spF b m))
  exact z3b k (spF b m)
theorem z8e {b m:Int} (hb:0<=b) (hm:0<=m) {k l:Nat} (h:k<=l):itF b k m<=itF b l m:=by
 induction l with
 | zero=>rw [Nat.le_zero.mp h]; exact Int.le_refl _
 | succ l ih =>
  rcases Nat.lt_or_ge l k with g | g
  ·rw [show k=l+1 by omega]; exact Int.le_refl _
  ·have h1:=ih g
   have h2:=z2z hb l hm
   have h3:=z4r hb (m:=itF b l m) (by omega)
   rw [z3b]
   omega
theorem z0x {x:Int} (h:capI x < CAP):x < CAP:=Int.not_le.mp fun z=>by rw [z41 z] at h; exact absurd h (Int.lt_irrefl _)
theorem z0i {x:Int} (h:capI x < CAP):capI x=x:=z0o (Int.le_of_lt (z0x h))
theorem z1r {x:Int}:capI x<=x:=by unfold capI; split <;> omega
theorem z2l {w:Bool} {o i d:Int} (ho:0<=o) (hi:0<=i) (hd:0<=d) (h:cofI w o (capI i) d < CAP):i < CAP/\o < CAP:=by
 have h0:=z12 hi
 have main:∀ x,capI x < CAP->o+capI i<=x->i < CAP/\o < CAP:=fun x hx hle=>by
  have h1:=z0x hx
  exact ⟨z0x (show capI i < CAP by omega),by omega⟩
 unfold cofI spcI at h
 split at h
 ·split at h
  ·exact main _ h (Int.le_refl _)
  ·refine main _ h ?_
   have:=z7g hd (capI i).toNat ho
   omega
 ·exact main _ h (Int.le_refl _)
namespace Gr
variable {b:Bk} {κ:Str->Int} {d C:Int} {g h:Gr}
theorem cu_w:∀ g:Gr,cu b κ d g=wsum (fun t=>cot b κ d t) g.ps
 | .nil=>rfl
 | .cons k g m r=>by
  show m*cofI (b.wide k) (κ k) (capI (cu b κ d g)) d+cu b κ d r=cot b κ d (k,g)*m+wsum _ r.ps
  rw [cu_w r,Int.mul_comm]
  rfl
theorem cu_tgt (g h:Gr):cu b κ d (tgt g h)=cu b κ d g+cu b κ d h:=by
 rw [cu_w,cu_w,cu_w,<- z1g]
 refine z1k _ _ _ _ (Nat.le_refl _) fun x=>?_
 rw [tgt_ps,z5s]
theorem cu_one (t:Tr) (m:Int):cu b κ d (one t m)=m*cot b κ d t:=by
 show m*cot b κ d t+0=_
 omega
theorem cu_tms (g:Gr) (m:Int):cu b κ d (tmsG g m)=cu b κ d g*m:=by
 unfold tmsG
 split
 ·next h=>rw [h,Int.mul_zero]; rfl
 ·rw [cu_w,cu_w,ps_ofPs,wsum_tms]
theorem cu_wo (ho:g.Ok C) {t:Tr} {m:Int} (hm:0<=m) (hle:m<=sumE g.ps t):cu b κ d (wo g t m)+m*cot b κ d t=cu b κ d g:=by
 have e:cu b κ d (wo g t m)+m*cot b κ d t=wsum (fun t=>cot b κ d t) ((wo g t m).ps++[(t,m)]):=by
  rw [z1g,<- cu_w]
  show _=_+(cot b κ d t*m+0)
  rw [Int.mul_comm m]
  omega
 rw [e,cu_w g]
 refine z1k _ _ _ _ (Nat.le_refl _) fun x=>?_
 rw [z0f,wo_ps,sumE_woL x (ok_ne ho) (fun p hp=>by have:=((ok_iff.mp ho).1 p hp).2.2.1; omega) hm,z04]
 by_cases hx:x=t
 ·subst hx
  rw [if_pos rfl,if_pos rfl]
  show _+(m+0)=_
  split <;> omega
 ·rw [if_neg hx,if_neg (fun z=>hx z.symm)]
  show _+(0+0)=_
  omega
theorem far_wide {k:Str} {n:Int} (hn:0<=n):(b.wide k=false->b.far k n=0)/\b.far k n<=n:=by
 refine ⟨fun h=>?_,(Bk.far_le b k hn).2⟩
 unfold Bk.far
 cases e:b.get k with
 | none=>rfl
 | some kd =>
  rw [Bk.wide_get e] at h
  simp [h]
theorem cot_lt {k:Str} {n:Int} (hk:0<=κ k) (hd:0<=d) (h0:0<=cu b κ d h) (hlt:cu b κ d h < cu b κ d g) (hn:0<=n) (hnd:n<=d) (hcap:cot b κ d (k,g) < CAP):(1+b.far k n)*cot b κ d (k,h) < cot b κ d (k,g):=by
 have hc:cu b κ d g < CAP/\κ k < CAP:=z2l (w:=b.wide k) (i:=cu b κ d g) hk (by omega) hd hcap
 have e1:capI (cu b κ d g)=cu b κ d g:=z0o (by omega)
 have e2:capI (cu b κ d h)=cu b κ d h:=z0o (by omega)
 have fw:=far_wide (b:=b) (k:=k) hn
 have f0:=(Bk.far_le b k hn).1
 have gdef:cot b κ d (k,g)=cofI (b.wide k) (κ k) (cu b κ d g) d:=by unfold cot cin; rw [e1]
 have hdef:cot b κ d (k,h)=cofI (b.wide k) (κ k) (cu b κ d h) d:=by unfold cot cin; rw [e2]
 rw [gdef] at hcap ⊢
 rw [hdef]
 have plain:b.far k n=0->capI (κ k+cu b κ d g) < CAP->(1+b.far k n)*capI (κ k+cu b κ d h) < capI (κ k+cu b κ d g):=fun z hx=>by
  rw [z,z0i hx]
  have:=z0x hx
  have:capI (κ k+cu b κ d h)<=κ k+cu b κ d h:=z1r
  omega
 unfold cofI spcI at hcap ⊢
 cases hw:b.wide k with
 | false =>
  rw [hw] at hcap
  simp only [Bool.false_eq_true,if_false] at hcap ⊢
  exact plain (fw.1 hw) hcap
 | true =>
  rw [hw] at hcap
  simp only [if_true] at hcap ⊢
  by_cases hd0:d=0
  ·rw [if_pos hd0] at hcap ⊢
   rw [if_pos hd0]
   exact plain (by omega) hcap
  ·rw [if_neg hd0] at hcap ⊢
   rw [if_neg hd0,z0i hcap]
   have h1:(cu b κ d h).toNat+1<=(cu b κ d g).toNat:=by omega
   have h2:=z8e hd hk h1
   rw [z3b] at h2
   have h3:0<=itF d (cu b κ d h).toNat (κ k):=Int.le_trans hk (z2z hd _ hk)
   generalize itF d (cu b κ d h).toNat (κ k)=M at h2 h3
   have h4:capI M<=M:=z1r
   have h5:(1+b.far k n)*capI M<=(1+d)*M:=by
    refine Int.le_trans (Int.mul_le_mul_of_nonneg_left h4 (by omega)) (Int.mul_le_mul_of_nonneg_right (by omega) h3)
   have h6:spF d M=1+(1+d)*M:=rfl
   omega
theorem cot_bare {k:Str} (hk:0<=κ k):cot b κ d (k,.nil)=capI (κ k):=by
 have e0:cin b κ d .nil=0:=z0o (by have:=z1w; show (0:Int)<=CAP; omega)
 unfold cot
 rw [e0]
 unfold cofI spcI
 split
 ·split
  ·rw [Int.add_zero]
  ·rfl
 ·rw [Int.add_zero]
theorem cu_pick (hk:∀ n,0<=κ n) (hd:0<=d) (ho:g.Ok C) {p:Tr × Int} (hp:p ∈ g.ps):cu b κ d (wo g p.1 1)+cot b κ d p.1=cu b κ d g/\0<=cu b κ d (wo g p.1 1):=by
 have h1:=((ok_iff.mp ho).1 p hp).2.2.1
 have h2:=sumE_mem (ok_ne ho) p hp
 have h3:=cu_wo (b:=b) (κ:=κ) (d:=d) ho (t:=p.1) (m:=1) (by omega) (by omega)
 exact ⟨by omega,cu_nn hk hd (wo_ok ho (by omega))⟩
/-- a fall whose fresh trees count less than the one struck off leaves a lesser count -/
theorem cu_stk {n F:Int} {fr:Gr} (hk:∀ n,0<=κ n) (hd:0<=d) (hn:0<=n) (hnd:n<=d) (hF:1<=F) (hfr:fr.Ok F):∀ {pl:Pl} {g:Gr} {C:Int} {k:Str},g.Ok C->bareAt g pl=some k->cu b κ d g < CAP->(κ k < CAP->cu b κ d fr < κ k)->cu b κ d (stk b n fr pl g).1 < cu b κ d g
 | [],_,_,_,_,h,_,_=>nomatch h
 | i::r,g,C,k,ho,h,hc,hlt=>by
  by_cases hr:r=[]
  ·subst hr
   obtain ⟨p,e,ep⟩:=bare_one h
   have pm:=List.mem_of_getElem? e
   obtain ⟨h1,h2⟩:=cu_pick (b:=b) hk hd ho pm
   rw [stk_one e]
   show cu b κ d (tgt (wo g p.1 1) fr) < _
   rw [cu_tgt]
   have ek:cot b κ d p.1=capI (κ k):=by rw [ep]; exact cot_bare (hk k)
   have hcap:capI (κ k) < CAP:=by omega
   have h3:=hlt (z0x hcap)
   rw [z0i hcap] at ek
   omega
  ·obtain ⟨p,e,h2⟩:=bare_more hr h
   rw [stk_more e hr]
   have pm:=List.mem_of_getElem? e
   obtain ⟨h1,h3⟩:=cu_pick (b:=b) hk hd ho pm
   obtain ⟨o1,o2,o3,o4⟩:=(ok_iff.mp ho).1 p pm
   have hcap:cot b κ d (p.1.1,p.1.2) < CAP:=by show cot b κ d p.1 < CAP; omega
   have hcc:cu b κ d p.1.2 < CAP/\κ p.1.1 < CAP:=z2l (w:=b.wide p.1.1) (i:=cu b κ d p.1.2) (hk p.1.1) (cu_nn (b:=b) hk hd o2) hd hcap
   have ih:=cu_stk hk hd hn hnd hF hfr o2 h2 hcc.1 hlt
   have so:=stk_ok (b:=b) hn hF hfr o2 h2
   have:=cot_lt (b:=b) (k:=p.1.1) (hk p.1.1) hd (cu_nn hk hd so) ih hn hnd hcap
   show cu b κ d (chR b n fr r g p) < _
   unfold chR
   rw [cu_tgt,cu_one]
   show cu b κ d (wo g p.1 1)+(1+b.far p.1.1 n)*cot b κ d (p.1.1,(stk b n fr r p.1.2).1) < _
   have e2:cot b κ d p.1=cot b κ d (p.1.1,p.1.2):=rfl
   omega
end Gr
/-- the trees a rule lays count less than the tree they are laid for -/
theorem zhw {b:Bk} {d n:Int} (ok:b.Ok) {k:Kd} (hkb:k ∈ b) (he:EndK b k.n) {r:Ru} (hr:r ∈ noR::k.rs) (hd:0<=d) (hn:0<=n) (hnd:n<=d) (hcap:z0k b d k.n < CAP):Gr.cu b (z0k b d) d (Gr.grw r n) < z0k b d k.n:=by
 have hk:∀ m,0<=z0k b d m:=fun m=>by have:=(z4b b d m).1; omega
 rw [zd8 ok hkb he] at hcap ⊢
 rw [z0i hcap]
 have hcap:=z0x hcap
 have hle:z1e b d (z0k b d) r<=lmx (k.rs.map (z1e b d (z0k b d))):=by
  rcases List.mem_cons.mp hr with rfl | hr
  ·rw [zce]; exact z8i _
  ·exact zaz (List.mem_map.mpr ⟨r,hr,rfl⟩)
 generalize lmx (k.rs.map (z1e b d (z0k b d)))=LM at hcap hle ⊢
 have rok:r.1.Ok 1000000001/\r.2.Ok 1000000001:=by
  rcases List.mem_cons.mp hr with rfl | hr
  ·exact ⟨trivial,trivial⟩
  ·have:=((ok.kd k hkb).2.2 r hr).1
   exact ⟨this.1,this.2.1⟩
 unfold Gr.grw
 rw [Gr.cu_tgt,Gr.cu_tms]
 unfold z1e Gr.cin at hle
 have c1:=Gr.cu_nn (b:=b) hk hd rok.1
 have c2:=Gr.cu_nn (b:=b) hk hd rok.2
 generalize Gr.cu b (z0k b d) d r.1=x at hle c1
 generalize Gr.cu b (z0k b d) d r.2=y at hle c2
 have p1:=z12 c1
 have p2:=z12 c2
 have h2:0<=d*capI y:=Int.mul_nonneg hd p2
 have ex:capI x=x:=z0i (by omega)
 by_cases hd0:d=0
 ·have:n=0:=by omega
  subst this
  rw [Int.mul_zero]
  omega
 ·have h3:1*capI y<=d*capI y:=Int.mul_le_mul_of_nonneg_right (by omega) p2
  have ey:capI y=y:=z0i (by omega)
  rw [ey] at hle
  have h4:n*y<=d*y:=Int.mul_le_mul_of_nonneg_right hnd c2
  rw [Int.mul_comm y n]
  omega
/-- behind a fall the count is less -/
theorem zby {b:Bk} {d n C:Int} (ok:b.Ok) {g:Gr} {pl:Pl} {kd:Kd} (ho:g.Ok C) (hb:Gr.bareAt g pl=some kd.n) (hkb:kd ∈ b) (he:EndK b kd.n) {r:Ru} (hr:r ∈ noR::kd.rs) (hd:0<=d) (hn:0<=n) (hnd:n<=d) (hcap:Gr.cin b (z0k b d) d g < CAP) :
  Gr.cin b (z0k b d) d (Gr.stk b n (Gr.grw r n) pl g).1 < Gr.cin b (z0k b d) d g:=by
 have hk:∀ m,0<=z0k b d m:=fun m=>by have:=(z4b b d m).1; omega
 unfold Gr.cin at hcap ⊢
 rw [z0i hcap]
 have hcap:=z0x hcap
 have rok:RuOk r:=by
  rcases List.mem_cons.mp hr with rfl | hr
  ·exact ⟨trivial,trivial,by decide⟩
  ·exact ((ok.kd kd hkb).2.2 r hr).1
 have h1:=Gr.cu_stk (b:=b) (κ:=z0k b d) (d:=d) (n:=n) hk hd hn hnd (F:=1000000001*n+2000000002) (by omega) (Gr.grw_ok rok hn) ho hb hcap (fun h=>zhw ok hkb he hr hd hn hnd h)
 exact Int.lt_of_le_of_lt z1r h1
/-- kinds of a row whose rules are of kinds later in it are not endless -/
theorem Later.ends {b:Bk} (ok:b.Ok) {ks:List Str} (h:Later ks b) (hb:b.names=ks):∀ n ∈ b.names,EndK b n:=by
 have main:∀ (c j:Nat) (n:Str),ks.length-j<=c->ks[j]?=some n->EndK b n:=by
  intro c
  induction c with
  | zero =>
   intro j n hc hj
   have:=(List.getElem?_eq_some_iff.mp hj).1
   omega
  | succ c ih =>
   intro j n hc hj
   have hn:n ∈ b.names:=by rw [hb]; exact List.mem_of_getElem? hj
   obtain ⟨kd,eg⟩:=Bk.get_of hn
   obtain ⟨km,rfl⟩:=Bk.get_some eg
   refine .mk fun m hm=>?_
   rw [z10 ok km] at hm
   obtain ⟨r,hr,hm⟩:=List.mem_flatMap.mp hm
   obtain ⟨x,hx,rfl⟩:=List.mem_map.mp hm
   have h1:=h kd km j hj r hr x hx
   obtain ⟨i,hi⟩:=List.mem_iff_getElem?.mp h1
   rw [List.getElem?_drop] at hi
   exact ih (j+1+i) _ (by omega) hi
 intro n hn
 rw [hb] at hn
 obtain ⟨j,hj⟩:=List.mem_iff_getElem?.mp hn
 exact main _ j n (Nat.le_refl _) hj
namespace Gr
variable {b:Bk} {κ:Str->Int} {d C:Int} {g h:Gr}
theorem far_of (k:Str) (n:Int):b.far k n=if b.wide k=true then n else 0:=by
 unfold Bk.far
 cases e:b.get k with
 | none =>
  have:b.wide k=false:=by unfold Bk.wide; rw [e]
  rw [this]; rfl
 | some kd=>rw [Bk.wide_get e]
theorem cot_one {k:Str} (hk:0<=κ k) (hd:0<=d) (h0:0<=cu b κ d h) (hlt:cu b κ d h+1=cu b κ d g) (hcap:cot b κ d (k,g) < CAP):(1+b.far k d)*cot b κ d (k,h)+1=cot b κ d (k,g):=by
 have hc:cu b κ d g < CAP/\κ k < CAP:=z2l (w:=b.wide k) (i:=cu b κ d g) hk (by omega) hd hcap
 have e1:capI (cu b κ d g)=cu b κ d g:=z0o (by omega)
 have e2:capI (cu b κ d h)=cu b κ d h:=z0o (by omega)
 have gdef:cot b κ d (k,g)=cofI (b.wide k) (κ k) (cu b κ d g) d:=by unfold cot cin; rw [e1]
 have hdef:cot b κ d (k,h)=cofI (b.wide k) (κ k) (cu b κ d h) d:=by unfold cot cin; rw [e2]
 rw [gdef] at hcap ⊢
 rw [hdef,far_of]
 have plain:capI (κ k+cu b κ d g) < CAP->(1+(0:Int))*capI (κ k+cu b κ d h)+1=capI (κ k+cu b κ d g):=fun hx=>by
  rw [z0i hx,z0o (show κ k+cu b κ d h<=CAP by have:=z0x hx; omega)]
  omega
 unfold cofI spcI at hcap ⊢
 cases hw:b.wide k with
 | false =>
  rw [hw] at hcap
  simp only [Bool.false_eq_true,if_false] at hcap ⊢
  exact plain hcap
 | true =>
  rw [hw] at hcap
  simp only [if_true] at hcap ⊢
  by_cases hd0:d=0
  ·subst hd0
   simp only [if_true] at hcap ⊢
   exact plain hcap
  ·rw [if_neg hd0] at hcap ⊢
   rw [if_neg hd0,z0i hcap]
   have h1:(cu b κ d g).toNat=(cu b κ d h).toNat+1:=by omega
   have hcap:=z0x hcap
   rw [h1,z3b] at hcap ⊢
   have h3:0<=itF d (cu b κ d h).toNat (κ k):=Int.le_trans hk (z2z hd _ hk)
   generalize itF d (cu b κ d h).toNat (κ k)=M at hcap h3
   have h6:spF d M=1+(1+d)*M:=rfl
   have h7:=z4r hd h3
   rw [z0o (show M<=CAP by omega),h6]
   omega
theorem cu_stk_one {F:Int} {fr:Gr} (hk:∀ n,0<=κ n) (hd:0<=d) (hF:1<=F) (hfr:fr.Ok F):∀ {pl:Pl} {g:Gr} {C:Int} {k:Str},g.Ok C->bareAt g pl=some k->cu b κ d g < CAP->(κ k < CAP->cu b κ d fr+1=κ k)->cu b κ d (stk b d fr pl g).1+1=cu b κ d g
 | [],_,_,_,_,h,_,_=>nomatch h
 | i::r,g,C,k,ho,h,hc,hlt=>by
  by_cases hr:r=[]
  ·subst hr
   obtain ⟨p,e,ep⟩:=bare_one h
   have pm:=List.mem_of_getElem? e
   obtain ⟨h1,h2⟩:=cu_pick (b:=b) hk hd ho pm
   rw [stk_one e]
   show cu b κ d (tgt (wo g p.1 1) fr)+1=_
   rw [cu_tgt]
   have ek:cot b κ d p.1=capI (κ k):=by rw [ep]; exact cot_bare (hk k)
   have hcap:capI (κ k) < CAP:=by omega
   have h3:=hlt (z0x hcap)
   rw [z0i hcap] at ek
   omega
  ·obtain ⟨p,e,h2⟩:=bare_more hr h
   rw [stk_more e hr]
   have pm:=List.mem_of_getElem? e
   obtain ⟨h1,h3⟩:=cu_pick (b:=b) hk hd ho pm
   obtain ⟨o1,o2,o3,o4⟩:=(ok_iff.mp ho).1 p pm
   have hcap:cot b κ d (p.1.1,p.1.2) < CAP:=by show cot b κ d p.1 < CAP; omega
   have hcc:cu b κ d p.1.2 < CAP/\κ p.1.1 < CAP:=z2l (w:=b.wide p.1.1) (i:=cu b κ d p.1.2) (hk p.1.1) (cu_nn (b:=b) hk hd o2) hd hcap
   have ih:=cu_stk_one hk hd hF hfr o2 h2 hcc.1 hlt
   have so:=stk_ok (b:=b) hd hF hfr o2 h2
   have:=cot_one (b:=b) (k:=p.1.1) (hk p.1.1) hd (cu_nn hk hd so) ih hcap
   show cu b κ d (chR b d fr r g p)+1=_
   unfold chR
   rw [cu_tgt,cu_one]
   show cu b κ d (wo g p.1 1)+(1+b.far p.1.1 d)*cot b κ d (p.1.1,(stk b d fr r p.1.2).1)+1=_
   have e2:cot b κ d p.1=cot b κ d (p.1.1,p.1.2):=rfl
   omega
end Gr
/-- a long fall: the first bare place,the first rule that lays most,the bound -/
def BestR (b:Bk) (D:Int) (kd:Kd) (i:Nat):Prop:=∃ r,(noR::kd.rs)[i]?=some r/\z1e b D (z0k b D) r=lmx (kd.rs.map (z1e b D (z0k b D)))
def pb63:Nat->Nat
 | 0=>6
 | 1=>25
 | _=>160
/-- a grove some long falls behind the first one -/
structure At63 (b:Bk) (j:Nat) (g:Gr):Prop where
 ok:g.Ok (10 ^ 41*((j:Int)+1))
 dp:g.deep<=3+3*j
 pt:g.parts<=pb63 j
 nm:Gr.Named b.names g
theorem At63.next {b:Bk} {j:Nat} {g:Gr} (h:At63 b j g) (hj:j < 2) {D:Int} (h0:0<=D) (h1:D<=10 ^ 30) {r:Ru} (rok:RuOk r/\∀ x ∈ Ru.within r,x.1.1 ∈ b.names) {pl:Pl} {k:Str} (hb:Gr.bareAt g pl=some k):At63 b (j+1) (Gr.stk b D (Gr.grw r D) pl g).1:=by
 have l1:=Gr.bare_len hb
 have p1:=Gr.stk_parts (b:=b) (n:=D) (fr:=Gr.grw r D) hb
 have d1:=Gr.stk_deep (b:=b) (n:=D) (fr:=Gr.grw r D) hb
 have p2:=Gr.grw_parts rok.1 D
 have d2:=Gr.grw_deep rok.1 D
 have hd:=h.dp
 have hp:=h.pt
 have so:=Gr.stk_ok (b:=b) (n:=D) (fr:=Gr.grw r D) (F:=1000000001*D+2000000002) h0 (by omega) (Gr.grw_ok rok.1 h0) h.ok hb
 refine ⟨so.mono (by push_cast; omega),?_,?_,Gr.stk_named (b:=b) (n:=D) (Gr.grw_named rok.2 D) hb h.nm⟩
 ·omega
 ·rcases (by omega:j=0\/j=1) with rfl | rfl
  ·have hp:g.parts<=6:=hp
   have:pl.length*(g.parts+1)<=3*7:=Nat.mul_le_mul (by omega) (by omega)
   show _<=25
   omega
  ·have hp:g.parts<=25:=hp
   have:pl.length*(g.parts+1)<=6*26:=Nat.mul_le_mul (by omega) (by omega)
   show _<=160
   omega
theorem BestR.lt {b:Bk} {D:Int} {kd:Kd} {i:Nat} (h:BestR b D kd i):i<=kd.rs.length:=by
 obtain ⟨r,e,_⟩:=h
 have:=(List.getElem?_eq_some_iff.mp e).1
 rw [List.length_cons] at this
 omega
namespace Gr
variable {b:Bk} {κ:Str->Int} {d C:Int} {g h:Gr}
theorem cofI_mono {w:Bool} {o i j d:Int} (ho:0<=o) (hi:0<=i) (hd:0<=d) (h:i<=j):cofI w o i d<=cofI w o j d:=by
 have cm:∀ {x y:Int},x<=y->capI x<=capI y:=fun {x y} h=>by
  unfold capI; split <;> split <;> omega
 unfold cofI spcI
 split
 ·split
  ·exact cm (by omega)
  ·exact cm (z8e hd ho (by omega))
 ·exact cm (by omega)
theorem capI_mono {x y:Int} (h:x<=y):capI x<=capI y:=by
 unfold capI; split <;> split <;> omega
theorem cofI_ge {w:Bool} {o i d:Int} (ho:0<=o) (hi:0<=i) (hd:0<=d) (h:cofI w o i d < CAP):o+i<=cofI w o i d:=by
 unfold cofI spcI at h ⊢
 split at h
 ·rename_i hw
  rw [if_pos hw]
  split at h
  ·rename_i h0
   rw [if_pos h0,z0i h]; exact Int.le_refl _
  ·rename_i h0
   rw [if_neg h0,z0i h]
   have:=z7g hd i.toNat ho
   omega
 ·rename_i hw
  rw [if_neg hw,z0i h]; exact Int.le_refl _
/-- each tree counts -/
theorem parts_cu (hk:∀ n,1<=κ n) (hd:0<=d):∀ {g:Gr} {C:Int},g.Ok C->cu b κ d g < CAP->(g.parts:Int)<=cu b κ d g
 | .nil,_,_,_=>Int.le_refl _
 | .cons k g m r,C,ho,hc=>by
  obtain ⟨_,og,m1,_,or_,_⟩:=ho
  have hk0:∀ n,0<=κ n:=fun n=>Int.le_trans (by decide) (hk n)
  have hr:=cu_nn (b:=b) hk0 hd or_
  have hg:=cu_nn (b:=b) hk0 hd og
  have x0:=(z7a (w:=b.wide k) (hk0 k) (z12 hg) hd).1
  have hc':m*cofI (b.wide k) (κ k) (capI (cu b κ d g)) d+cu b κ d r < CAP:=hc
  show ((1+g.parts+r.parts:Nat):Int)<=m*cofI (b.wide k) (κ k) (capI (cu b κ d g)) d+cu b κ d r
  generalize hx:cofI (b.wide k) (κ k) (capI (cu b κ d g)) d=x at x0 hc' ⊢
  have hm:x<=m*x:=by
   have:=Int.mul_le_mul_of_nonneg_right m1 x0
   omega
  have hcc:=z2l (w:=b.wide k) (i:=cu b κ d g) (hk0 k) hg hd (by rw [hx]; omega)
  have h1:=parts_cu hk hd og hcc.1
  have h2:=parts_cu hk hd or_ (show cu b κ d r < CAP by omega)
  have h3:=cofI_ge (w:=b.wide k) (hk0 k) (z12 hg) hd (by rw [hx]; omega)
  rw [hx,z0o (by omega)] at h3
  have:=hk k
  omega
theorem parts_cin (hk:∀ n,1<=κ n) (hd:0<=d) (ho:g.Ok C) (hc:cin b κ d g < CAP):(g.parts:Int)<=cin b κ d g:=by
 have h1:cu b κ d g < CAP:=z0x hc
 have h2:cin b κ d g=cu b κ d g:=z0i hc
 rw [h2]; exact parts_cu hk hd ho h1
/-- with more laid there is no less -/
theorem cu_stk_mono {n F:Int} {fr:Gr} (hk:∀ n,0<=κ n) (hd:0<=d) (hn:0<=n) (hF:1<=F) (hfr:fr.Ok F):∀ {pl:Pl} {g:Gr} {C:Int} {k:Str},g.Ok C->bareAt g pl=some k->cu b κ d (stk b n .nil pl g).1<=cu b κ d (stk b n fr pl g).1
 | [],_,_,_,_,h=>nomatch h
 | i::r,g,C,k,ho,h=>by
  by_cases hr:r=[]
  ·subst hr
   obtain ⟨p,e,ep⟩:=bare_one h
   rw [stk_one e,stk_one e]
   show cu b κ d (tgt (wo g p.1 1) .nil)<=cu b κ d (tgt (wo g p.1 1) fr)
   rw [cu_tgt,cu_tgt]
   have h1:=cu_nn (b:=b) hk hd hfr
   have h2:cu b κ d .nil=0:=rfl
   omega
  ·obtain ⟨p,e,h2⟩:=bare_more hr h
   rw [stk_more e hr,stk_more e hr]
   have pm:=List.mem_of_getElem? e
   obtain ⟨o1,o2,o3,o4⟩:=(ok_iff.mp ho).1 p pm
   have ih:=cu_stk_mono hk hd hn hF hfr o2 h2
   have f0:=(Bk.far_le b p.1.1 hn).1
   have n0:=cu_nn (b:=b) hk hd (stk_ok (b:=b) (F:=1) (fr:=.nil) hn (by decide) trivial o2 h2)
   show cu b κ d (chR b n .nil r g p)<=cu b κ d (chR b n fr r g p)
   unfold chR
   rw [cu_tgt,cu_tgt,cu_one,cu_one]
   show cu b κ d (wo g p.1 1)+(1+b.far p.1.1 n)*cot b κ d (p.1.1,(stk b n .nil r p.1.2).1)<=cu b κ d (wo g p.1 1)+(1+b.far p.1.1 n)*cot b κ d (p.1.1,(stk b n fr r p.1.2).1)
   have hm:cot b κ d (p.1.1,(stk b n .nil r p.1.2).1)<=cot b κ d (p.1.1,(stk b n fr r p.1.2).1):=cofI_mono (hk _) (z12 n0) hd (capI_mono ih)
   have:=Int.mul_le_mul_of_nonneg_left hm (show 0<=1+b.far p.1.1 n by omega)
   omega
/-- the fewest falls: each kind counts one -/
abbrev fw (b:Bk) (d:Int) (g:Gr):Int:=cin b (fun _=>1) d g
theorem one_nn:∀ n:Str,(0:Int)<=(fun _=>1) n:=fun _=>show (0:Int)<=1 by decide
theorem fw_cap (hc:fw b d g < CAP):cu b (fun _=>1) d g < CAP/\fw b d g=cu b (fun _=>1) d g:=⟨z0x hc,z0i hc⟩
theorem short_less {n:Int} {pl:Pl} {k:Str} (ho:g.Ok C) (hb:bareAt g pl=some k) (hd:0<=d) (hn:0<=n) (hnd:n<=d) (hc:fw b d g < CAP):fw b d (stk b n .nil pl g).1 < fw b d g:=by
 obtain ⟨h1,h2⟩:=fw_cap hc
 have h3:=cu_stk (b:=b) (κ:=fun _=>1) (F:=1) (fr:=.nil) one_nn hd hn hnd (by decide) trivial ho hb h1 (fun _=>show (0:Int) < 1 by decide)
 have h4:fw b d (stk b n .nil pl g).1<=cu b (fun _=>1) d (stk b n .nil pl g).1:=z1r
 omega
theorem short_one {pl:Pl} {k:Str} (ho:g.Ok C) (hb:bareAt g pl=some k) (hd:0<=d) (hc:fw b d g < CAP):fw b d (stk b d .nil pl g).1+1=fw b d g:=by
 obtain ⟨h1,h2⟩:=fw_cap hc
 have h3:=cu_stk_one (b:=b) (κ:=fun _=>1) (F:=1) (fr:=.nil) one_nn hd (by decide) trivial ho hb h1 (fun _=>show (0:Int)+1=1 by decide)
 have h4:fw b d (stk b d .nil pl g).1=cu b (fun _=>1) d (stk b d .nil pl g).1:=z0o (by omega)
 omega
/-- no fall leaves less than one less,the bound being said -/
theorem any_one {F:Int} {fr:Gr} {pl:Pl} {k:Str} (ho:g.Ok C) (hF:1<=F) (hfr:fr.Ok F) (hb:bareAt g pl=some k) (hd:0<=d) (hc:fw b d g < CAP):fw b d g<=fw b d (stk b d fr pl g).1+1:=by
 have h1:=short_one (b:=b) ho hb hd hc
 have h2:=capI_mono (cu_stk_mono (b:=b) (κ:=fun _=>1) one_nn hd hd hF hfr ho hb)
 have h3:fw b d (stk b d .nil pl g).1<=fw b d (stk b d fr pl g).1:=h2
 omega
theorem fw_zero (ho:g.Ok C) (hd:0<=d):fw b d g=0 ↔ g=.nil:=by
 constructor
 ·intro h
  have hc:fw b d g < CAP:=by have:=z1w; omega
  have:=parts_cin (b:=b) (κ:=fun _=>1) (fun _=>Int.le_refl 1) hd ho hc
  cases g with
  | nil=>rfl
  | cons k g m r =>
   exfalso
   have h2:(Gr.cons k g m r).parts=1+g.parts+r.parts:=rfl
   have h3:cin b (fun _=>1) d (Gr.cons k g m r)=0:=h
   omega
 ·intro h
  subst h
  show capI 0=0
  exact z0o (by have:=z1w; omega)
theorem fw_nn (ho:g.Ok C) (hd:0<=d):0<=fw b d g:=(cin_nn (b:=b) (κ:=fun _=>1) one_nn hd ho).1
def Dq (h:Str->Nat):Nat->Gr->Prop
 | _,.nil=>True
 | N,.cons k g _ r=>h k+1<=N/\Dq h (N-1) g/\Dq h N r
variable {hh:Str->Nat} {N:Nat}
theorem dq_iff:∀ {N:Nat} {g:Gr},Dq hh N g ↔ ∀ p ∈ g.ps,hh p.1.1+1<=N/\Dq hh (N-1) p.1.2
 | N,.nil=>⟨(fun _ p hp=>nomatch hp),fun _=>trivial⟩
 | N,.cons k g m r=>by
  constructor
  ·rintro ⟨h1,h2,h3⟩ p hp
   rcases List.mem_cons.mp hp with rfl | hp
   ·exact ⟨h1,h2⟩
   ·exact dq_iff.mp h3 p hp
  ·intro h
   obtain ⟨h1,h2⟩:=h _ (mcs ..)
   exact ⟨h1,h2,dq_iff.mpr fun p hp=>h p (mcm _ hp)⟩
theorem dq_keys {g h:Gr} (hk:∀ p ∈ h.ps,∃ q ∈ g.ps,q.1=p.1) (hg:Dq hh N g):Dq hh N h:=dq_iff.mpr fun p hp=>by
 obtain ⟨q,hq,e⟩:=hk p hp
 rw [<- e]; exact dq_iff.mp hg q hq
theorem dq_tgt {g h:Gr} (hg:Dq hh N g) (hk:Dq hh N h):Dq hh N (tgt g h):=dq_iff.mpr fun p hp=>by
 rw [tgt_ps] at hp
 obtain ⟨q,hq,e⟩:=z17 _ p hp
 rw [<- e]
 rcases List.mem_append.mp hq with hq | hq
 ·exact dq_iff.mp hg q hq
 ·exact dq_iff.mp hk q hq
theorem dq_wo {g:Gr} (hg:Dq hh N g) (t:Tr) (m:Int):Dq hh N (wo g t m):=dq_keys (fun p hp=>by rw [wo_ps] at hp; exact woL_key hp) hg
theorem dq_one {t:Tr} {m:Int} (h1:hh t.1+1<=N) (h2:Dq hh (N-1) t.2):Dq hh N (one t m):=⟨h1,h2,trivial⟩
theorem dq_deep:∀ {N:Nat} {g:Gr},Dq hh N g->g.deep<=N
 | _,.nil,_=>Nat.zero_le _
 | N,.cons k g m r,⟨h1,h2,h3⟩=>by
  have a1:=dq_deep h2
  have a2:=dq_deep h3
  show max (1+g.deep) r.deep<=N
  omega
theorem dq_of {c:Nat}:∀ {N:Nat} {g:Gr},(∀ x ∈ g.within,hh x.1.1<=c)->g.deep+c<=N->Dq hh N g
 | _,.nil,_,_=>trivial
 | N,.cons k g m r,h,hN=>by
  have e:(Gr.cons k g m r).deep=max (1+g.deep) r.deep:=rfl
  have h1:=h ((k,g),m) (mcs ..)
  refine ⟨by have:hh k<=c:=h1; omega,dq_of (fun x hx=>h x (mcm _ (mal _ hx))) (by omega),dq_of (fun x hx=>h x (mcm _ (mar _ hx))) (by omega)⟩
theorem dq_stk {n:Int} {fr:Gr}:∀ {pl:Pl} {N:Nat} {g:Gr} {k:Str},bareAt g pl=some k->(∀ M,hh k+1<=M->Dq hh M fr)->Dq hh N g->Dq hh N (stk b n fr pl g).1
 | [],_,_,_,h,_,_=>nomatch h
 | i::r,N,g,k,h,hf,hg=>by
  by_cases hr:r=[]
  ·subst hr
   obtain ⟨p,e,ep⟩:=bare_one h
   rw [stk_one e]
   have h1:=(dq_iff.mp hg p (List.mem_of_getElem? e)).1
   rw [ep] at h1
   exact dq_tgt (dq_wo hg _ _) (hf N h1)
  ·obtain ⟨p,e,h2⟩:=bare_more hr h
   rw [stk_more e hr]
   obtain ⟨h3,h4⟩:=dq_iff.mp hg p (List.mem_of_getElem? e)
   exact dq_tgt (dq_wo hg _ _) (dq_one (t:=chg b n fr r p) h3 (dq_stk h2 hf h4))
theorem grw_deep3 {r:Ru} (h1:r.1.deep<=3) (h2:r.2.deep<=3) (n:Int):(grw r n).deep<=3:=tgt_deep h1 (Nat.le_trans (tms_deep r.2 n) h2)
theorem grw_within {r:Ru} {n:Int} {Pd:Str->Prop} (h:∀ p ∈ Ru.within r,Pd p.1.1):∀ x ∈ (grw r n).within,Pd x.1.1:=by
 have key:∀ ns:List Str,(∀ p ∈ Ru.within r,p.1.1 ∈ ns)->Named ns (grw r n):=fun ns hns=>grw_named hns n
 intro x hx
 have h1:=key ((Ru.within r).map fun p=>p.1.1) (fun p hp=>List.mem_map.mpr ⟨p,hp,rfl⟩) x hx
 obtain ⟨p,hp,e⟩:=List.mem_map.mp h1
 rw [<- e]; exact h p hp
end Gr
/-- how much further a kind of a row can grow -/
def hgt (ks:List Str) (k:Str):Nat:=2*(ks.length-1-ks.idxOf k)
theorem zbk {ks:List Str} (nd:ks.Nodup) {j:Nat} {k x:Str} (hj:ks[j]?=some k) (hx:x ∈ ks.drop (j+1)):hgt ks x+2<=hgt ks k:=by
 obtain ⟨i,hi⟩:=List.mem_iff_getElem?.mp hx
 rw [List.getElem?_drop] at hi
 have e1:ks.idxOf k=j:=by
  have hm:k ∈ ks:=List.mem_of_getElem? hj
  have h1:=List.idxOf_lt_length_of_mem hm
  have h2:ks[ks.idxOf k]?=some k:=by rw [List.getElem?_eq_getElem h1]; simp
  exact nodup_at nd h2 hj
 have e2:ks.idxOf x=j+1+i:=by
  have hm:x ∈ ks:=List.mem_of_getElem? hi
  have h1:=List.idxOf_lt_length_of_mem hm
  have h2:ks[ks.idxOf x]?=some x:=by rw [List.getElem?_eq_getElem h1]; simp
  exact nodup_at nd h2 hi
 have h3:=(List.getElem?_eq_some_iff.mp hi).1
 unfold hgt
 rw [e1,e2]
 omega
/-- a rule of a kind of a row,grown: what it lays is not so deep -/
theorem Later.dq {b:Bk} {ks:List Str} (h:Later ks b) (nd:ks.Nodup) {k:Kd} (hk:k ∈ b) (hn:k.n ∈ ks) {r:Ru} (hr:r ∈ noR::k.rs) (h1:r.1.deep<=3) (h2:r.2.deep<=3) (n:Int):∀ M,hgt ks k.n+1<=M->Gr.Dq (hgt ks) M (Gr.grw r n):=fun M hM=>by
 obtain ⟨j,hj⟩:=List.mem_iff_getElem?.mp hn
 have hd:=Gr.grw_deep3 h1 h2 n
 rcases List.mem_cons.mp hr with rfl | hr
 ·refine Gr.dq_of (c:=0) (fun x hx=>?_) ?_
  ·exact absurd (Gr.grw_within (r:=noR) (n:=n) (Pd:=fun _=>False) (fun p hp=>nomatch hp) x hx) id
  ·have:(Gr.grw noR n).deep<=0:=Gr.tgt_deep (Nat.le_refl _) (Nat.le_trans (Gr.tms_deep _ n) (Nat.le_refl _))
   omega
 ·by_cases h0:(Gr.grw r n).within=[]
  ·refine Gr.dq_of (c:=0) (fun x hx=>by rw [h0] at hx; cases hx) ?_
   have:=Gr.within_length (Gr.grw r n)
   have h3:=z0d (Gr.grw r n)
   rw [h0] at this
   have:(Gr.grw r n).parts=0:=this.symm
   omega
  ·have key:∀ x ∈ (Gr.grw r n).within,hgt ks x.1.1+2<=hgt ks k.n:=Gr.grw_within (Pd:=fun y=>hgt ks y+2<=hgt ks k.n) fun p hp=>zbk nd hj (h k hk j hj r hr p hp)
   have h2:2<=hgt ks k.n:=by
    cases e:(Gr.grw r n).within with
    | nil=>exact absurd e h0
    | cons x xs=>have:=key x (by rw [e]; exact mcs ..); omega
   exact Gr.dq_of (c:=hgt ks k.n-2) (fun x hx=>by have:=key x hx; omega) (by omega)
/-- the fewest falls,or none where there are too many -/
def z4i (K:PySem.W.Frag) (C:Addr):Sp:=fun vs H Q E=>∃ (v w:V) (b:Bk) (g:Gr) (D B:Int),vs=[v,w,.int D]/\BkA K C H v b/\b.Ok/\GA K H w g/\g.Ok B/\B<=2 ^ 1000/\g.deep < 20/\g.parts<=2000/\Gr.Named b.names g/\Dok D/\(Gr.fw b D g < CAP->∀ H',SB [] H H'->Q (.int (Gr.fw b D g)) H')/\(CAP<=Gr.fw b D g->∀ H',SB [] H H'->Q .non H')
def z4k (K:PySem.W.Frag) (C NP TL:Addr):Sp:=fun vs H Q E=>∃ (v w:V) (b:Bk) (g:Gr) (D B:Int),vs=[v,w,.int D]/\BkA K C H v b/\b.Ok/\GA K H w g/\g.Ok B/\B<=2 ^ 1000/\g.deep < 20/\g.parts<=1000/\Gr.Named b.names g/\Dok D /\
 (CAP<=Gr.fw b D g->∀ H',SB [] H H'->E (.ref TL) none H') /\
 (Gr.fw b D g < CAP->g=.nil->∀ H',SB [] H H'->E (.ref NP) none H') /\
 (Gr.fw b D g < CAP->∀ (pl:Pl) (k:Str),(g.bp 0)[0]?=some pl->(pl,k) ∈ g.bk 0->Gr.bareAt g pl=some k->∀ (t:Addr) (H':Hp),SB [] H H'->Dp K H' (.ref t) (chE (pl,0))->Q (.ref t) H')
/-- choices of any grove that stands -/
def z29 (K:PySem.W.Frag) (C N:Addr):Sp:=fun vs H Q E=>∃ (v w:V) (b:Bk) (g:Gr),vs=[v,w]/\BkA K C H v b/\GA K H w g/\b.Ok/\g.deep < 20/\g.parts<=900/\(∀ x ∈ g.within,z01 x.1.1)/\(∀ x ∈ g.within,x.1.1 ∈ b.names)/\∀ (l:Addr) (us:List V) (H':Hp),SB [] H H'->H l=none->H' l=some (.lst us)->Bears K H' chE us ((g.bk 0).flatMap (chs b))->Q (.ref l) H'
theorem zf9 {b:Bk} (ok:b.Ok):∀ xs:List (Pl × Str),(xs.flatMap (chs b)).length<=5*xs.length:=by
 intro xs
 induction xs with
 | nil=>simp
 | cons x xs ih =>
  have h3:b.cnt x.2<=5:=by
   unfold Bk.cnt
   cases e:b.get x.2 with
   | none=>exact Nat.zero_le _
   | some kd =>
    have:=(ok.kd kd (Bk.get_some e).1).2.1
    show 1+kd.rs.length<=5
    omega
  have h4:(chs b x).length=b.cnt x.2:=by unfold chs; rw [List.length_map,List.length_range]
  rw [List.flatMap_cons,List.length_append,List.length_cons,h4]
  omega
theorem zao (c:Pl × Nat):SeqAt.shaped (chE c)=true:=zbt (z90 c) (by rw [z7y]; decide)
theorem zfs (c:Pl × Nat):PyData.eqv (chE c) (chE c)=true:=zhn (z90 c)
/-- a choice is among the choices -/
theorem zih {cs:List (Pl × Nat)} {c:Pl × Nat} (h:c ∈ cs):((cs.map chE).any fun z=>PyData.eqv z (chE c))=true:=List.any_eq_true.mpr ⟨chE c,List.mem_map.mpr ⟨c,h,rfl⟩,zfs c⟩
/-- what a choice is: a bare place,a kind,a rule -/
theorem zib {b:Bk} (ok:b.Ok) {g:Gr} (gn:Gr.Named b.names g) {c:Pl × Nat} (hc:c ∈ (g.bk 0).flatMap (chs b)):∃ (k:Str) (kd:Kd) (ru:Ru),Gr.bareAt g c.1=some k/\b.get k=some kd/\kd ∈ b/\kd.n=k/\(noR::kd.rs)[c.2]?=some ru/\ru ∈ noR::kd.rs/\RuOk ru/\∀ x ∈ Ru.within ru,x.1.1 ∈ b.names:=by
 obtain ⟨x0,hx0,hc'⟩:=List.mem_flatMap.mp hc
 obtain ⟨r,hr,rfl⟩:=List.mem_map.mp hc'
 have hr:=List.mem_range.mp hr
 have hbare:=Gr.bk_bare _ (Nat.le_refl _) hx0
 have kn:=Gr.bare_named gn hbare
 obtain ⟨kd,eg⟩:=Bk.get_of kn
 obtain ⟨km,ekn⟩:=Bk.get_some eg
 have ecn:b.cnt x0.2=1+kd.rs.length:=by unfold Bk.cnt; rw [eg]
 have rlt:r < (noR::kd.rs).length:=by rw [List.length_cons]; omega
 have er:(noR::kd.rs)[r]?=some (noR::kd.rs)[r]:=List.getElem?_eq_getElem rlt
 generalize (noR::kd.rs)[r]=ru at er
 have rum:=List.mem_of_getElem? er
 have rok:RuOk ru/\∀ x ∈ Ru.within ru,x.1.1 ∈ b.names:=by
  rcases List.mem_cons.mp rum with rfl | hm
  ·exact ⟨⟨trivial,trivial,by decide⟩,fun x hx=>by cases hx⟩
  ·exact (ok.kd kd km).2.2 ru hm
 exact ⟨x0.2,kd,ru,hbare,eg,km,ekn,er,rum,rok.1,rok.2⟩
/-- the first bare place with rule 0 is a choice -/
theorem z87 {b:Bk} {g:Gr} (gn:Gr.Named b.names g) {pl:Pl} {k:Str} (h:(pl,k) ∈ g.bk 0):(pl,0) ∈ (g.bk 0).flatMap (chs b):=by
 refine List.mem_flatMap.mpr ⟨(pl,k),h,List.mem_map.mpr ⟨0,List.mem_range.mpr ?_,rfl⟩⟩
 have hb:=Gr.bk_bare _ (Nat.le_refl _) h
 obtain ⟨kd,eg⟩:=Bk.get_of (Gr.bare_named gn hb)
 have:b.cnt k=1+kd.rs.length:=by unfold Bk.cnt; rw [eg]
 show 0 < b.cnt k
 omega
theorem zis (n:Int) (hn:0<=n):Gr.grw noR n=.nil:=Gr.grw_nil hn
/-- a book whose kinds stand in a row,its rules no more than three deep -/
structure B86 (b:Bk) (D:Int):Prop where
 ok:b.Ok
 later:Later b.names b
 len:b.length<=5
 dp:∀ k ∈ b,∀ r ∈ k.rs,r.1.deep<=3/\r.2.deep<=3
 d0:0<=D
 d3:D<=3
theorem B86.ends {b:Bk} {D:Int} (h:B86 b D):∀ n ∈ b.names,EndK b n:=h.later.ends h.ok rfl
theorem B86.Dok {b:Bk} {D:Int} (h:B86 b D):Dok D:=⟨h.d0,Int.lt_of_le_of_lt h.d3 (by decide +kernel)⟩
theorem zfo {i:Nat} {x:V} {σ:L2.St} {H:Hp} {Q:L2.St->Hp->Prop} (h:Q (σ.set i (some x)) H):gName i x σ H Q:=h
def pb86:Nat->Nat
 | 0=>7
 | 1=>36
 | 2=>226
 | _=>1820
/-- how many turns there are -/
def z0y (L:Int):Nat:=if L<=40 then L.toNat else 3
noncomputable abbrev mw (b:Bk) (D:Int) (g:Gr):Int:=Gr.cin b (z0k b D) D g
/-- a grove some falls behind the first one -/
structure W86 (b:Bk) (D L:Int) (j:Nat) (g:Gr):Prop where
 ok:g.Ok (60*10 ^ 58+1+5000000010*(j:Int))
 dq:Gr.Dq (hgt b.names) 12 g
 nm:Gr.Named b.names g
 cnt:mw b D g<=L-j
 lv:40 < L->g.deep<=4+2*j/\g.parts<=pb86 j
theorem z84 (j:Nat) (h:j<=41):(60*10 ^ 58+1+5000000010*(j:Int))<=2 ^ 1000:=by
 have h61:(10:Int) ^ 61<=2 ^ 1000:=by decide +kernel
 have h1:(10:Int) ^ 61=1000*10 ^ 58:=by decide +kernel
 have h2:(10:Int) ^ 12<=10 ^ 58:=by decide +kernel
 omega
theorem W86.pts {b:Bk} {D L:Int} {j:Nat} {g:Gr} (B:B86 b D) (hL:L < CAP) (h:W86 b D L j g) (hj:j<=z0y L):g.deep<=12/\g.parts<=1820/\(j < z0y L->g.parts<=226)/\j<=40:=by
 have hd:=Gr.dq_deep h.dq
 have h1:=h.cnt
 unfold z0y at hj ⊢
 by_cases h40:L<=40
 ·rw [if_pos h40] at hj ⊢
  have hp:=Gr.parts_cin (b:=b) (κ:=z0k b D) (d:=D) (fun m=>(z4b b D m).1) B.d0 h.ok (by show mw b D g < CAP; omega)
  have hp:(g.parts:Int)<=mw b D g:=hp
  exact ⟨hd,by omega,fun _=>by omega,by omega⟩
 ·rw [if_neg h40] at hj ⊢
  obtain ⟨a1,a2⟩:=h.lv (by omega)
  have:pb86 j<=1820/\(j < 3->pb86 j<=226):=by
   rcases (by omega:j=0\/j=1\/j=2\/j=3) with rfl | rfl | rfl | rfl <;> decide
  exact ⟨hd,by omega,fun h=>by have:=this.2 h; omega,by omega⟩
theorem W86.next {b:Bk} {D L:Int} {j:Nat} {g:Gr} (B:B86 b D) (hL:L < CAP) (h:W86 b D L j g) (hj:j < z0y L) {pl:Pl} {kd:Kd} (hb:Gr.bareAt g pl=some kd.n) (km:kd ∈ b) {r:Ru} (hr:r ∈ noR::kd.rs) {n:Int} (n0:0<=n) (nD:n<=D):W86 b D L (j+1) (Gr.stk b n (Gr.grw r n) pl g).1:=by
 have kn:kd.n ∈ b.names:=Gr.bare_named h.nm hb
 have rok:RuOk r/\∀ x ∈ Ru.within r,x.1.1 ∈ b.names:=by
  rcases List.mem_cons.mp hr with rfl | hm
  ·exact ⟨⟨trivial,trivial,by decide⟩,fun x hx=>by cases hx⟩
  ·exact (B.ok.kd kd km).2.2 r hm
 have rdp:r.1.deep<=3/\r.2.deep<=3:=by
  rcases List.mem_cons.mp hr with rfl | hm
  ·exact ⟨by decide,by decide⟩
  ·exact B.dp kd km r hm
 have fdp:=Gr.grw_deep3 rdp.1 rdp.2 n
 have fpt:=Gr.grw_parts rok.1 n
 have d3:=B.d3
 have ho:=Gr.stk_ok (b:=b) (n:=n) (F:=1000000001*n+2000000002) n0 (by omega) (Gr.grw_ok rok.1 n0) h.ok hb
 have h1:=h.cnt
 have hlt:mw b D g < CAP:=by
  have:=h.cnt
  omega
 have fl:=zby (b:=b) (d:=D) (n:=n) B.ok h.ok (kd:=kd) hb km (B.ends _ kn) hr B.d0 n0 nD hlt
 refine ⟨ho.mono (by omega),Gr.dq_stk hb (B.later.dq B.ok.nd km kn hr rdp.1 rdp.2 n) h.dq,Gr.stk_named (b:=b) (n:=n) (Gr.grw_named rok.2 n) hb h.nm,?_,fun h40=>?_⟩
 ·have fl:mw b D (Gr.stk b n (Gr.grw r n) pl g).1 < mw b D g:=fl
  omega
 ·obtain ⟨a1,a2⟩:=h.lv h40
  have hp:=Gr.stk_parts (b:=b) (n:=n) (fr:=Gr.grw r n) hb
  have hd:=Gr.stk_deep (b:=b) (n:=n) (fr:=Gr.grw r n) hb
  have hl:=Gr.bare_len hb
  have hm:=Nat.mul_le_mul (Nat.le_trans hl a1) (Nat.succ_le_succ a2)
  have hj3:j < 3:=by unfold z0y at hj; rw [if_neg (by omega)] at hj; exact hj
  refine ⟨by omega,?_⟩
  rcases (by omega:j=0\/j=1\/j=2) with rfl | rfl | rfl
  ·have:pb86 0=7:=rfl
   have:pb86 (0+1)=36:=rfl
   simp only [Nat.succ_eq_add_one] at hm
   omega
  ·have:pb86 1=36:=rfl
   have:pb86 (1+1)=226:=rfl
   simp only [Nat.succ_eq_add_one] at hm
   omega
  ·have:pb86 2=226:=rfl
   have:pb86 (2+1)=1820:=rfl
   simp only [Nat.succ_eq_add_one] at hm
   omega
structure B87 (b:Bk) (D:Int):Prop where
 ok:b.Ok
 d0:0<=D
 d3:D<=3
theorem B87.Dok {b:Bk} {D:Int} (h:B87 b D):Dok D:=⟨h.d0,Int.lt_of_le_of_lt h.d3 (by decide +kernel)⟩
def pb87:Nat->Nat
 | 0=>7
 | 1=>32
 | 2=>132
 | _=>532
structure W87 (b:Bk) (D L:Int) (j:Nat) (g:Gr):Prop where
 ok:g.Ok (60*10 ^ 58+1+5000000010*(j:Int))
 dp:g.deep<=4
 nm:Gr.Named b.names g
 cnt:Gr.fw b D g<=L-j
 lv:40 < L->g.parts<=pb87 j
theorem W87.pts {b:Bk} {D L:Int} {j:Nat} {g:Gr} (B:B87 b D) (hL:L < CAP) (h:W87 b D L j g) (hj:j<=z0y L):g.parts<=532/\(j < z0y L->g.parts<=132)/\j<=40:=by
 have h1:=h.cnt
 unfold z0y at hj ⊢
 by_cases h40:L<=40
 ·rw [if_pos h40] at hj ⊢
  have hp:=Gr.parts_cin (b:=b) (κ:=fun _=>1) (d:=D) (fun _=>Int.le_refl 1) B.d0 h.ok (by show Gr.fw b D g < CAP; omega)
  have hp:(g.parts:Int)<=Gr.fw b D g:=hp
  exact ⟨by omega,fun _=>by omega,by omega⟩
 ·rw [if_neg h40] at hj ⊢
  have a2:=h.lv (by omega)
  have:pb87 j<=532/\(j < 3->pb87 j<=132):=by
   rcases (by omega:j=0\/j=1\/j=2\/j=3) with rfl | rfl | rfl | rfl <;> decide
  exact ⟨by omega,fun h=>by have:=this.2 h; omega,by omega⟩
theorem W87.next {b:Bk} {D L:Int} {j:Nat} {g:Gr} (B:B87 b D) (hL:L < CAP) (h:W87 b D L j g) (hj:j < z0y L) {pl:Pl} {k:Str} (hb:Gr.bareAt g pl=some k) {n:Int} (n0:0<=n) (nD:n<=D):W87 b D L (j+1) (Gr.stk b n .nil pl g).1:=by
 have d3:=B.d3
 have ho:=Gr.stk_ok (b:=b) (n:=n) (F:=1) (fr:=.nil) n0 (by decide) trivial h.ok hb
 have h1:=h.cnt
 have fl:=Gr.short_less (b:=b) (d:=D) (n:=n) h.ok hb B.d0 n0 nD (by omega)
 have hl:=Gr.bare_len hb
 have a1:=h.dp
 refine ⟨ho.mono (by omega),?_,Gr.stk_named (b:=b) (n:=n) (fr:=.nil) (fun x hx=>nomatch hx) hb h.nm,by omega,fun h40=>?_⟩
 ·have hd:=Gr.stk_deep (b:=b) (n:=n) (fr:=.nil) hb
  have:(Gr.nil).deep=0:=rfl
  omega
 ·have a2:=h.lv h40
  have hp:=Gr.stk_parts (b:=b) (n:=n) (fr:=.nil) hb
  have hz:(Gr.nil).parts=0:=rfl
  have hm:=Nat.mul_le_mul (Nat.le_trans hl a1) (Nat.succ_le_succ a2)
  have hj3:j < 3:=by unfold z0y at hj; rw [if_neg (by omega)] at hj; exact hj
  simp only [Nat.succ_eq_add_one] at hm
  rcases (by omega:j=0\/j=1\/j=2) with rfl | rfl | rfl
  ·have:pb87 0=7:=rfl
   have:pb87 (0+1)=32:=rfl
   omega
  ·have:pb87 1=32:=rfl
   have:pb87 (1+1)=132:=rfl
   omega
  ·have:pb87 2=132:=rfl
   have:pb87 (2+1)=532:=rfl
   omega
/-- how great a grove is behind any fall from there -/
theorem W87.any {b:Bk} {D L:Int} {j:Nat} {g:Gr} (B:B87 b D) (hL:L < CAP) (h:W87 b D L j g) (hj:j < z0y L) {pl:Pl} {k:Str} (hb:Gr.bareAt g pl=some k) {fr:Gr} (fd:fr.deep<=4) (fp:fr.parts<=4) (n:Int):(Gr.stk b n fr pl g).1.deep<=7/\(Gr.stk b n fr pl g).1.parts<=536:=by
 obtain ⟨_,g2,_⟩:=h.pts B hL (Nat.le_of_lt hj)
 have a1:=h.dp
 have hl:=Gr.bare_len hb
 have hd:=Gr.stk_deep (b:=b) (n:=n) (fr:=fr) hb
 have hp:=Gr.stk_parts (b:=b) (n:=n) (fr:=fr) hb
 have hm:=Nat.mul_le_mul (Nat.le_trans hl a1) (Nat.succ_le_succ (g2 hj))
 simp only [Nat.succ_eq_add_one] at hm
 exact ⟨by omega,by omega⟩
def z4q (K:PySem.W.Frag) (C:Addr):Sp:=fun vs H Q E=>∃ (v w:V) (p:Addr) (b:Bk) (g:Gr) (D L:Int) (j:Nat),vs=[v,w,.int D,.int (Gr.fw b D g),.ref p]/\BkA K C H v b/\B87 b D/\GA K H w g/\W87 b D L j g/\j < z0y L/\L < CAP/\g ≠ .nil/\PuG H p /\
 ∀ (H':Hp),SB [p] H H'->PuG H' p->Q (.bl true) H'
def z4m (K:PySem.W.Frag) (C:Addr):Sp:=fun vs H Q E=>∃ (v w:V) (b:Bk) (g:Gr) (D L n:Int) (j:Nat),vs=[v,w,.int D,.int (Gr.fw b D g),.int n]/\BkA K C H v b/\B87 b D/\GA K H w g/\W87 b D L j g/\j < z0y L/\L < CAP/\g ≠ .nil/\0<=n/\n<=D /\
 ∀ (t:Addr) (x:V) (g':Gr) (H':Hp),SB [] H H'->SqT K H' t [x,.int (Gr.fw b D g')]->GA K H' x g'->W87 b D L (j+1) g'->(n=D->Gr.fw b D g'+1=Gr.fw b D g)->Q (.ref t) H'
def z6e (K:PySem.W.Frag) (C:Addr):Sp:=fun vs H Q E=>∃ (a:Addr) (ns:List Int) (v w:V) (b:Bk) (g:Gr) (D:Int) (mo:Bool),vs=[.ref a,v,w,.int D,.int (Gr.fw b D g),.bl mo]/\SqL K H a (ns.map V.int)/\ns.length<=63/\BkA K C H v b/\B87 b D/\GA K H w g/\W87 b D (Gr.fw b D g) 0 g/\Gr.fw b D g < CAP/\∀ H',SB [] H H'->Q (.bl true) H'
def top (i:Nat):Stmt:=PySem.Challenge.pw_felltimber_k87_whole_fewest.main.body.getD i (.Pass ⟨0,0,0,0⟩)
abbrev z5w:Stmt:=top 3
abbrev z5q:Stmt:=top 4
abbrev z50:Stmt:=top 5
abbrev z2q:Stmt:=top 6
abbrev z4v:Stmt:=top 7
abbrev z5e:Stmt:=top 8
abbrev z5a:Stmt:=top 19
abbrev z45:Stmt:=top 20
abbrev z3q:Stmt:=top 21
abbrev z5l:Stmt:=top 22
abbrev z56:Stmt:=top 23
abbrev z3n:Stmt:=top 24
abbrev z5b:Stmt:=top 25
abbrev z3d:Stmt:=top 26
abbrev z5o:Stmt:=top 27
abbrev z3o:Stmt:=top 28
abbrev z5t:Stmt:=top 36
abbrev z54:Stmt:=top 37
abbrev z5u:Stmt:=top 38
abbrev z2s:Stmt:=top 39
abbrev z3m:Stmt:=top 40
abbrev z3s:Stmt:=top 41
abbrev z47:Stmt:=top 42
abbrev z52:Stmt:=top 45
abbrev z4z:Stmt:=top 46
abbrev z3r:Stmt:=top 47
abbrev z5m:Stmt:=top 48
abbrev z5x:Stmt:=top 49
abbrev z5c:Stmt:=top 51
abbrev z3k:Stmt:=top 52
abbrev z46:Stmt:=top 53
abbrev z3y:Stmt:=top 55
abbrev z5k:Stmt:=top 56
abbrev z5i:Stmt:=top 60
abbrev z58:Stmt:=top 61
abbrev z5g:Stmt:=top 62
abbrev z5r:Stmt:=top 63
abbrev z51:Stmt:=top 64
abbrev z53:Stmt:=top 65
abbrev z4x:Stmt:=top 66
abbrev z3j:Stmt:=top 67
abbrev z57:Stmt:=top 69
abbrev z55:Stmt:=top 70
abbrev s_q8:Stmt:=top 71
abbrev z5p:Stmt:=top 72
abbrev z3h:Stmt:=top 73
abbrev s_q7:Stmt:=top 74
abbrev s_q6:Stmt:=top 75
abbrev z5d:Stmt:=top 76
abbrev s_q5:Stmt:=top 77
abbrev s_q9:Stmt:=top 78
abbrev z4y:Stmt:=top 79
abbrev z5z:Stmt:=top 80
abbrev z5n:Stmt:=top 81
abbrev s_q4:Stmt:=inClass (top 13) 0
abbrev s_q0:Stmt:=inClass (top 35) 0
abbrev s_q1:Stmt:=inClass (top 35) 1
abbrev s_q3:Stmt:=inClass (top 35) 2
abbrev s_q2:Stmt:=inClass (top 35) 3
abbrev eC:List Str:=["TooLong"]
abbrev eN:List Str:=["NoPlace","NoBook","NoKind","NoRule","NoNumber","TooGreat","TooLong"]
abbrev eK:List Str:=[]
def zdv:He.DefD:=⟨("is_whole",none),"is_whole","is_whole",defArgs z5w,defBody z5w,defScope z5w,[],[]⟩
def ze2:He.DefD:=⟨("is_many",none),"is_many","is_many",defArgs z5q,defBody z5q,defScope z5q,[],[]⟩
def zdi:He.DefD:=⟨("is_name",none),"is_name","is_name",defArgs z50,defBody z50,defScope z50,[],[]⟩
def zdg:He.DefD:=⟨("is_rising",none),"is_rising","is_rising",defArgs z2q,defBody z2q,defScope z2q,[],[]⟩
def zeu:He.DefD:=⟨("joined",none),"joined","joined",defArgs z4v,defBody z4v,defScope z4v,[],[]⟩
def zer:He.DefD:=⟨("run_of",none),"run_of","run_of",defArgs z5e,defBody z5e,defScope z5e,[],[]⟩
def zf2:He.DefD:=⟨("is_tree",none),"is_tree","is_tree",defArgs z5a,defBody z5a,defScope z5a,[],[]⟩
def zek:He.DefD:=⟨("is_grove",none),"is_grove","is_grove",defArgs z45,defBody z45,defScope z45,[],[]⟩
def zef:He.DefD:=⟨("are_grove_pairs",none),"are_grove_pairs","are_grove_pairs",defArgs z3q,defBody z3q,defScope z3q,[],[]⟩
def zf1:He.DefD:=⟨("together",none),"together","together",defArgs z5l,defBody z5l,defScope z5l,[],[]⟩
def ze0:He.DefD:=⟨("without",none),"without","without",defArgs z56,defBody z56,defScope z56,[],[]⟩
def zf4:He.DefD:=⟨("times",none),"times","times",defArgs z3n,defBody z3n,defScope z3n,[],[]⟩
def zel:He.DefD:=⟨("pairs_within",none),"pairs_within","pairs_within",defArgs z5b,defBody z5b,defScope z5b,[],[]⟩
def zev:He.DefD:=⟨("kinds_within",none),"kinds_within","kinds_within",defArgs z3d,defBody z3d,defScope z3d,[],[]⟩
def zem:He.DefD:=⟨("parts_of",none),"parts_of","parts_of",defArgs z5o,defBody z5o,defScope z5o,[],[]⟩
def zdm:He.DefD:=⟨("deep_of",none),"deep_of","deep_of",defArgs z3o,defBody z3o,defScope z3o,[],[]⟩
def zea:He.DefD:=⟨("rules_from_nought",none),"rules_from_nought","rules_from_nought",defArgs z5t,defBody z5t,defScope z5t,[],[]⟩
def zes:He.DefD:=⟨("check_kind",none),"check_kind","check_kind",defArgs z54,defBody z54,defScope z54,[],[]⟩
def zeb:He.DefD:=⟨("check_kinds",none),"check_kinds","check_kinds",defArgs z5u,defBody z5u,defScope z5u,[],[]⟩
def zeh:He.DefD:=⟨("are_kinds",none),"are_kinds","are_kinds",defArgs z2s,defBody z2s,defScope z2s,[],[]⟩
def zeo:He.DefD:=⟨("is_kind",none),"is_kind","is_kind",defArgs z3m,defBody z3m,defScope z3m,[],[]⟩
def zdt:He.DefD:=⟨("is_rule",none),"is_rule","is_rule",defArgs z3s,defBody z3s,defScope z3s,[],[]⟩
def zen:He.DefD:=⟨("is_rule_of",none),"is_rule_of","is_rule_of",defArgs z47,defBody z47,defScope z47,[],[]⟩
def zdr:He.DefD:=⟨("capped",none),"capped","capped",defArgs z52,defBody z52,defScope z52,[],[]⟩
def zdh:He.DefD:=⟨("check_long",none),"check_long","check_long",defArgs z4z,defBody z4z,defScope z4z,[],[]⟩
def zdl:He.DefD:=⟨("count_in",none),"count_in","count_in",defArgs z3r,defBody z3r,defScope z3r,[],[]⟩
def ze3:He.DefD:=⟨("count_of",none),"count_of","count_of",defArgs z5m,defBody z5m,defScope z5m,[],[]⟩
def zep:He.DefD:=⟨("spread_count",none),"spread_count","spread_count",defArgs z5x,defBody z5x,defScope z5x,[],[]⟩
def zds:He.DefD:=⟨("tree_at",none),"tree_at","tree_at",defArgs z5c,defBody z5c,defScope z5c,[],[]⟩
def zed:He.DefD:=⟨("number_of",none),"number_of","number_of",defArgs z3k,defBody z3k,defScope z3k,[],[]⟩
def zdw:He.DefD:=⟨("bare_places",none),"bare_places","bare_places",defArgs z46,defBody z46,defScope z46,[],[]⟩
def ze6:He.DefD:=⟨("fewest_falls",none),"fewest_falls","fewest_falls",defArgs z3y,defBody z3y,defScope z3y,[],[]⟩
def ze8:He.DefD:=⟨("short_fall",none),"short_fall","short_fall",defArgs z5k,defBody z5k,defScope z5k,[],[]⟩
def zdy:He.DefD:=⟨("fallen",none),"fallen","fallen",defArgs z5i,defBody z5i,defScope z5i,[],[]⟩
def zdk:He.DefD:=⟨("rule_at",none),"rule_at","rule_at",defArgs z58,defBody z58,defScope z58,[],[]⟩
def zdu:He.DefD:=⟨("check_number",none),"check_number","check_number",defArgs z5g,defBody z5g,defScope z5g,[],[]⟩
def zdd:He.DefD:=⟨("check_bound",none),"check_bound","check_bound",defArgs z5r,defBody z5r,defScope z5r,[],[]⟩
def zf3:He.DefD:=⟨("grown",none),"grown","grown",defArgs z51,defBody z51,defScope z51,[],[]⟩
def zde:He.DefD:=⟨("further_ones",none),"further_ones","further_ones",defArgs z53,defBody z53,defScope z53,[],[]⟩
def zej:He.DefD:=⟨("struck",none),"struck","struck",defArgs z4x,defBody z4x,defScope z4x,[],[]⟩
def zex:He.DefD:=⟨("choices",none),"choices","choices",defArgs z3j,defBody z3j,defScope z3j,[],[]⟩
def zf5:He.DefD:=⟨("_law_purse",none),"_law_purse","_law_purse",defArgs z57,defBody z57,defScope z57,[],[]⟩
def ze7:He.DefD:=⟨("_law_take",none),"_law_take","_law_take",defArgs z55,defBody z55,defScope z55,[],[]⟩
def d_q8:He.DefD:=⟨("_law_names",none),"_law_names","_law_names",defArgs s_q8,defBody s_q8,defScope s_q8,[],[]⟩
def zet:He.DefD:=⟨("_law_tidy",none),"_law_tidy","_law_tidy",defArgs z5p,defBody z5p,defScope z5p,[],[]⟩
def zee:He.DefD:=⟨("_law_side",none),"_law_side","_law_side",defArgs z3h,defBody z3h,defScope z3h,[],[]⟩
def d_q7:He.DefD:=⟨("_law_kinds",none),"_law_kinds","_law_kinds",defArgs s_q7,defBody s_q7,defScope s_q7,[],[]⟩
def d_q6:He.DefD:=⟨("_law_grove",none),"_law_grove","_law_grove",defArgs s_q6,defBody s_q6,defScope s_q6,[],[]⟩
def zdj:He.DefD:=⟨("_law_whole",none),"_law_whole","_law_whole",defArgs z5d,defBody z5d,defScope z5d,[],[]⟩
def d_q5:He.DefD:=⟨("_law_fewest",none),"_law_fewest","_law_fewest",defArgs s_q5,defBody s_q5,defScope s_q5,[],[]⟩
def d_q9:He.DefD:=⟨("_law_no_better",none),"_law_no_better","_law_no_better",defArgs s_q9,defBody s_q9,defScope s_q9,[],[]⟩
def zec:He.DefD:=⟨("_law_short",none),"_law_short","_law_short",defArgs z4y,defBody z4y,defScope z4y,[],[]⟩
def zdq:He.DefD:=⟨("_law_walked",none),"_law_walked","_law_walked",defArgs z5z,defBody z5z,defScope z5z,[],[]⟩
def zdx:He.DefD:=⟨("law",none),"law","law",defArgs z5n,defBody z5n,defScope z5n,[],[]⟩
def d_q4:He.DefD:=⟨("NoKind",some "__init__"),"__init__","NoKind.__init__",defArgs s_q4,defBody s_q4,defScope s_q4,[],[]⟩
def d_q0:He.DefD:=⟨("Book",some "__init__"),"__init__","Book.__init__",defArgs s_q0,defBody s_q0,defScope s_q0,[],[]⟩
def d_q1:He.DefD:=⟨("Book",some "names"),"names","Book.names",defArgs s_q1,defBody s_q1,defScope s_q1,[],[]⟩
def d_q3:He.DefD:=⟨("Book",some "spreads"),"spreads","Book.spreads",defArgs s_q3,defBody s_q3,defScope s_q3,[],[]⟩
def d_q2:He.DefD:=⟨("Book",some "rules"),"rules","Book.rules",defArgs s_q2,defBody s_q2,defScope s_q2,[],[]⟩
def fn:List He.DefD:=[zdv,ze2,zdi,zdg,zeu,zer,zf2,zek,zef,zf1,ze0,zf4,zel,zev,zem,zdm,zea,zes,zeb,zeh,zeo,zdt,zen,zdr,zdh,zdl,ze3,zep,zds,zed,zdw,ze6,ze8,zdy,zdk,zdu,zdd,zf3,zde,zej,zex,zf5,ze7,d_q8,zet,zee,d_q7,d_q6,zdj,d_q5,d_q9,zec,zdq,zdx,d_q4,d_q0,d_q1,d_q3,d_q2]
def fa1:List He.Fa:=[.glo "is_whole",.glo "is_many",.glo "is_name",.glo "is_rising",.glo "joined",.glo "run_of",.glo "is_tree",.glo "is_grove",.glo "are_grove_pairs",.glo "together",.glo "without",.glo "times",.glo "pairs_within",.glo "kinds_within",.glo "parts_of",.glo "deep_of",.glo "rules_from_nought",.glo "check_kind",.glo "check_kinds",.glo "are_kinds",.glo "is_kind",.glo "is_rule",.glo "is_rule_of",.glo "capped",.glo "check_long",.glo "count_in",.glo "count_of",.glo "spread_count",.glo "tree_at",.glo "number_of",.glo "bare_places",.glo "fewest_falls",.glo "short_fall",.glo "fallen",.glo "rule_at",.glo "check_number",.glo "check_bound",.glo "grown",.glo "further_ones",.glo "struck",.glo "choices",.glo "_law_purse",.glo "_law_take",.glo "_law_names",.glo "_law_tidy",.glo "_law_side",.glo "_law_kinds",.glo "_law_grove",.glo "_law_whole",.glo "_law_fewest",.glo "_law_no_better",.glo "_law_short",.glo "_law_walked",.glo "law",.free "len"]
def fa2:List He.Fa:=[.free "isinstance",.free "int",.free "bool",.free "str",.free "tuple",.free "list",.free "all",.free "zip",.free "sum",.free "max",.free "range",.free "enumerate",.free "abs",.free "sorted",.free "min",.free "reversed",.free "any",.free "set",.free "dict",.free "repr",.glo "FellError",.free "ValueError",.glo "NoPlace",.glo "NoBook",.glo "NoKind",.glo "NoRule",.glo "NoNumber",.glo "TooGreat",.glo "TooLong",.str "LETTERS" "abcdefghijklmnopqrstuvwxyz",.int "LONGEST_NAME" (8),.int "MOST_KINDS" (8),.int "MOST_RULES" (4),.int "MOST_RULE_PARTS" (4),.int "MOST_MANY" (1000000000),.int "TOO_LONG" (1000000000000000000000000000000000000000000000000000000000000000000000000000000000000000000000000000000000000000000000000000000000000000000000000000000000000000000000000000000000000000000000000000000000000000000000000000000000000000000000000000000000000000000000000000000000000000000000000000000000000),.int "MOST_PARTS_STANDING" (2000),.int "MOST_DEEP_STANDING" (60),.glo "NO_GROVES",.exc "NoBook",.exc "NoNumber",.exc "NoPlace",.exc "NoRule",.exc "TooGreat",.exc "TooLong",.meth "NoKind" "__init__",.noat "NoKind" "kind",.glo "Book",.cls "Book",.noat "Book" "spread_by_name",.noat "Book" "rows_by_name",.mkr "Book",.meth "Book" "names",.meth "Book" "spreads",.meth "Book" "rules"]
def fa:List He.Fa:=fa1++fa2
def exOk (K:PySem.W.Frag):Bool:=zdf K (He.ga K "NoKind")&&(no2B K (He.ga K "NO_GROVES")&&(ermB K (He.ga K) eC eN))
abbrev R:PySem.W.OpenRow:=PySem.W.OpenLaw.row PySem.Challenge.rw_felltimber_k87_whole_fewest
abbrev hk:PySem.W.Hook:=zeq 6 fa fn exOk
def ob (s:PySem.W.SharedT):AlE:=obsE 6 fa fn exOk (HandSHeadRun.getT s)
theorem ob_eq (s:PySem.W.SharedT):ob s=hk.obs s.abs:=zfw (HandSHeadRun.getT_eq s)
def loose:List PySem.Str:=(["is_whole","is_many","is_name","is_rising","joined","run_of","FellError","NoPlace","NoBook","NoKind","NoRule","NoNumber"]:List PySem.Str)++(["TooGreat","TooLong","is_tree","is_grove","are_grove_pairs","together","without","times","pairs_within","kinds_within","parts_of","deep_of"]:List PySem.Str)++(["Book","rules_from_nought","check_kind","check_kinds","are_kinds","is_kind","is_rule","is_rule_of","capped","check_long","count_in","count_of"]:List PySem.Str)++(["spread_count","tree_at","number_of","bare_places","fewest_falls","short_fall","fallen","rule_at","check_number","check_bound","grown","further_ones"]:List PySem.Str)++(["struck","choices","_law_purse","_law_take","_law_names","_law_tidy","_law_side","_law_kinds","_law_grove","_law_whole","_law_fewest","_law_no_better"]:List PySem.Str)++(["_law_short","_law_walked","LETTERS","LONGEST_NAME","MOST_DEEP_STANDING","MOST_KINDS","MOST_MANY","MOST_PARTS_STANDING","MOST_RULES","MOST_RULE_PARTS","NO_GROVES","TOO_LONG"]:List PySem.Str)
def KTr (s:PySem.W.SharedT):PySem.W.Frag:=He.frG (HandSHeadRun.getT s) (He.asD (HandSHeadRun.getT s) 6)
theorem run1 (w:World) (os:PySem.OsState):(HandSHeadRun.endF (HandSHeadRun.stepQ (HandSHeadRun.denQ HandSHeadRun.tabQ) R.prog w) 9000 R.prog w os).map (fun s=>HandSHeadRun.looksF R.prog (PySem.W.boot_heap w.params) s.abs)=some true:=by
 kernel_rfl
theorem run2 (w:World) (os:PySem.OsState):(HandSHeadRun.endF (HandSHeadRun.stepQ (HandSHeadRun.denQ HandSHeadRun.tabQ) R.prog w) 9000 R.prog w os).map (fun s=>HandSHeadRun.seenQ (PySem.W.view R.prog [81]) loose (importedModules R.prog.main.body) (fun s=>xlAt (PySem.W.view R.prog [81]) [] s&&recOk R.toRowW.records s) s.abs)=some (openGood (PySem.W.view R.prog [81]) loose):=by
 kernel_rfl
theorem run3 (w:World) (os:PySem.OsState):(HandSHeadRun.endF (HandSHeadRun.stepQ (HandSHeadRun.denQ HandSHeadRun.tabQ) R.prog w) 9000 R.prog w os).map (fun s=>fa1.all fun f=>f.ok (KTr s))=some true:=by
 kernel_rfl
theorem run4 (w:World) (os:PySem.OsState):(HandSHeadRun.endF (HandSHeadRun.stepQ (HandSHeadRun.denQ HandSHeadRun.tabQ) R.prog w) 9000 R.prog w os).map (fun s=>fa2.all fun f=>f.ok (KTr s))=some true:=by
 kernel_rfl
theorem run5 (w:World) (os:PySem.OsState):(HandSHeadRun.endF (HandSHeadRun.stepQ (HandSHeadRun.denQ HandSHeadRun.tabQ) R.prog w) 9000 R.prog w os).map (fun s=>fn.all fun d=>d.ok (KTr s))=some true:=by
 kernel_rfl
theorem run6 (w:World) (os:PySem.OsState):(HandSHeadRun.endF (HandSHeadRun.stepQ (HandSHeadRun.denQ HandSHeadRun.tabQ) R.prog w) 9000 R.prog w os).map (fun s=>fn.map fun d=>He.fnW (KTr s) d.at_)=some (fn.map He.DefD.val):=by
 kernel_rfl
theorem run7 (w:World) (os:PySem.OsState):(HandSHeadRun.endF (HandSHeadRun.stepQ (HandSHeadRun.denQ HandSHeadRun.tabQ) R.prog w) 9000 R.prog w os).map (fun s=>exOk (KTr s))=some true:=by
 kernel_rfl
theorem map3 {σ α β γ:Type} {o:Option σ} {A:σ->α} {B:σ->β} {C:σ->γ} {a:α} {b:β} {c:γ} (h1:o.map A=some a) (h2:o.map B=some b) (h3:o.map C=some c):o.map (fun s=>(A s,B s,C s))=some (a,b,c):=by
 cases o with
 | none=>cases h1
 | some s=>exact congrArg some (Prod.ext (Option.some.inj h1) (Prod.ext (Option.some.inj h2) (Option.some.inj h3)))
theorem mapE {σ:Type} {o:Option σ} {f1 f2:List He.Fa} {gn:List He.DefD} {ex:PySem.W.Frag->Bool} (K:σ->PySem.W.Frag) (h1:o.map (fun s=>f1.all fun f=>f.ok (K s))=some true) (h2:o.map (fun s=>f2.all fun f=>f.ok (K s))=some true) (h3:o.map (fun s=>gn.all fun d=>d.ok (K s))=some true) (h4:o.map (fun s=>gn.map fun d=>He.fnW (K s) d.at_)=some (gn.map He.DefD.val)) (h5:o.map (fun s=>ex (K s))=some true):o.map (fun s=>(He.obsD (f1++f2) gn (K s),ex (K s)))=some (He.valD gn,true):=by
 cases o with
 | none=>cases h1
 | some s =>
  have e1:(f1.all fun f=>f.ok (K s))=true:=Option.some.inj h1
  have e2:(f2.all fun f=>f.ok (K s))=true:=Option.some.inj h2
  have e3:(gn.all fun d=>d.ok (K s))=true:=Option.some.inj h3
  have e4:(gn.map fun d=>He.fnW (K s) d.at_)=gn.map He.DefD.val:=Option.some.inj h4
  have e5:ex (K s)=true:=Option.some.inj h5
  refine congrArg some (Prod.ext (Prod.ext ?_ e4) e5)
  show (((f1++f2).all fun f=>f.ok (K s))&&gn.all fun d=>d.ok (K s))=true
  rw [List.all_append,e1,e2,e3]; rfl
theorem run (w:World):HandSHeadRun.RunEq R (PySem.W.view R.prog [81]) hk ob 9000 loose w:=by
 intro os
 exact map3 (run1 w os) (run2 w os) (mapE KTr (run3 w os) (run4 w os) (run5 w os) (run6 w os) (run7 w os))
section
variable {P:Program} {w:World} {K:PySem.W.Frag} {mg:Str->Option Value} {base:Heap} {f:Addr} {fd:FuncData} {ps:List Addr}
theorem zh2:FnScope ["thing"] ["thing"] (defScope z5w):=⟨rfl,rfl,rfl,by decide +kernel,rfl,by decide +kernel,by decide +kernel⟩
theorem zge (B:BI mg) (F:Fun K "is_whole" "is_whole" z5w f fd):FnOk P w K mg base CX0 1 f fd ["thing"] (z2f K):=by
 refine F.ok zh2 (fun vs H Q E h=>?_) (fun cdv A outer s H vs Q E hr h=>?_)
 ·obtain ⟨v,n,b1,b2,rfl,_⟩:=h
  rfl
 obtain ⟨v,n,b1,b2,rfl,ty,k1,k2,q⟩:=h
 refine ⟨_,pss_one (ps_ret (pe_and (z0z B (pv 0) B.int boot_int) (pe_one (pe_not (z0z B (pv 0) B.bool boot_bool))))),?_⟩
 refine ⟨_,rfl,_,_,n,b1,rfl,ty,k1,b1,rfl,?_⟩
 cases b1 with
 | false=>exact iteF q
 | true =>
  refine iteT ⟨_,rfl,_,_,n,b2,rfl,ty,k2 rfl,b2,rfl,?_⟩
  exact q
end
section
variable {P:Program} {w:World} {K:PySem.W.Frag} {mg:Str->Option Value} {base:Heap} {f:Addr} {fd:FuncData} {ps:List Addr}
theorem zi8:FnScope ["thing"] ["thing"] (defScope z5q):=⟨rfl,rfl,rfl,by decide +kernel,rfl,by decide +kernel,by decide +kernel⟩
theorem zi1 {ps:List Addr} (B:BI mg) (G:Got P w K mg base "is_whole" ["thing"] 1 (z2f K)) (F:Fun K "is_many" "is_many" z5q f fd):FnOk P w K mg base CX0 2 f fd ["thing"] (z6q K ps):=by
 refine F.ok zi8 (fun vs H Q E h=>?_) (fun cdv A outer s H vs Q E hr h=>?_)
 ·obtain ⟨v,d,rfl,_⟩:=h
  rfl
 obtain ⟨v,d,rfl,th,q⟩:=h
 refine ⟨_,pss_one (ps_ret (pe_and (z00 G hr rfl (pa_cons (pv 0) pa_nil)) (pe_one (pe_cmpR op_ge (pv 0) pe_int (nomark _))))),?_⟩
 obtain ⟨n,b1,b2,ty,k1,k2,y1,y2⟩:=th.whole
 refine ⟨_,rfl,v,n,b1,b2,rfl,ty,k1,k2,b1&&!b2,rfl,?_⟩
 cases e:(b1&&!b2) with
 | false =>
  refine iteF ?_
  rw [y2 e] at q
  exact q
 | true =>
  obtain ⟨i,rfl,rfl⟩:=y1 e
  exact iteT ⟨_,rfl,_,_,rfl,rfl,q⟩
end
section
variable {P:Program} {w:World} {K:PySem.W.Frag} {mg:Str->Option Value} {base:Heap} {f:Addr} {fd:FuncData}
theorem zgb:FnScope ["thing"] ["thing"] (defScope z50):=⟨rfl,rfl,rfl,by decide +kernel,rfl,by decide +kernel,by decide +kernel⟩
theorem zi3 (B:BI mg) (L:∃ t,mg "LETTERS"=some (.str abc t)) (N:∃ t,mg "LONGEST_NAME"=some (.int 8 t)) (G:Got P w K mg base "run_of" ["text","at","signs"] 1 (z7d K)) (F:Fun K "is_name" "is_name" z50 f fd):FnOk P w K mg base CX0 2 f fd ["thing"] (z71 K):=by
 refine F.ok zgb (fun vs H Q E h=>?_) (fun cdv A outer s H vs Q E hr h=>?_)
 ·obtain ⟨v,d,rfl,_⟩:=h
  rfl
 obtain ⟨v,d,rfl,th,q⟩:=h
 obtain ⟨tl,hL⟩:=L
 obtain ⟨tn,hN⟩:=N
 refine ⟨_,pss_cons (ps_if (PW.pt (pw_or (pt_not (pt_val (z0z B (pv 0) B.str boot_str))) (pw_or1 (pt_not (pt_chain op_le op_le pe_int (pe_callB call_len_str rfl B.len PySem.boot_len (pa_cons (pv 0) pa_nil)) (pe_glob (v:=.int 8) rfl hN ⟨_,rfl⟩)))))) (pss_one (ps_ret pe_bl)) pss_nil)
  (pss_one (ps_ret (pe_cmpR op_eq (z00 G hr rfl (pa_cons (pv 0) (pa_cons pe_int (pa_cons (pe_glob (v:=.str abc) rfl hL ⟨_,rfl⟩) pa_nil)))) (pv 0) (nomark _)))),?_⟩
 obtain ⟨n1,b,ty,kb,y1,y2⟩:=th.txt
 refine ⟨_,rfl,_,_,n1,b,rfl,ty,kb,b,rfl,?_⟩
 cases b with
 | false =>
  refine iteT (iteT ?_)
  have e:z1d d=false:=by
   cases d with
   | str z=>exact absurd rfl (y2 rfl z)
   | _=>simp [z1d]
  have:=q H SB.refl
  rw [e] at this
  exact this
 | true =>
 refine iteF ?_
 obtain ⟨z,rfl,rfl,hz⟩:=y1 rfl
 have hzl:z.length<=sizeLine:=by have:=sizeLine_eq; omega
 refine ⟨_,rfl,z,rfl,hzl,_,_,rfl,rfl,_,rfl,?_⟩
 by_cases h1:1<=z.length
 ·rw [show decide ((1:Int)<=(z.length:Int))=true from decide_eq_true (by omega)]
  refine iteT ⟨_,_,rfl,rfl,_,rfl,?_⟩
  by_cases h8:z.length<=8
  ·rw [show decide ((z.length:Int)<=8)=true from decide_eq_true (by omega)]
   refine iteF ?_
   refine ⟨_,rfl,z,abc,0,rfl,by omega,Nat.zero_le _,fun e _ he hin hout=>?_⟩
   refine ⟨_,rfl,rfl,?_⟩
   have:=q H SB.refl
   rw [<- zcm h1 h8 he hin hout] at this
   exact this
  ·rw [show decide ((z.length:Int)<=8)=false from decide_eq_false (by omega)]
   have:=q H SB.refl
   rw [z8o fun h=>h8 h.2] at this
   exact iteT this
 ·rw [show decide ((1:Int)<=(z.length:Int))=false from decide_eq_false (by omega)]
  have:=q H SB.refl
  rw [z8o fun h=>h1 h.1] at this
  exact iteF ⟨_,rfl,iteT this⟩
end
section
variable {P:Program} {w:World} {K:PySem.W.Frag} {mg:Str->Option Value} {base:Heap} {f:Addr} {fd:FuncData} {ps:List Addr}
theorem sc_q38:FnScope z8m ["things"] (defScope z2q):=⟨rfl,rfl,rfl,by decide +kernel,rfl,by decide +kernel,by decide +kernel⟩
theorem zhb (B:BI mg) (F:Fun K "is_rising" "is_rising" z2q f fd):FnOk P w K mg base CX0 1 f fd ["things"] (z6h K):=by
 refine F.ok sc_q38 (fun vs H Q E h=>?_) (fun cdv A outer s H vs Q E hr h=>?_)
 ·obtain ⟨v,n,b1,rfl,_⟩:=h
  rfl
 obtain ⟨a,xs,ds,rfl,hS,hDp,hok,hal,hz,q⟩:=h
 have hu:A.units+200 < cLine:=by have:=hr.un; show A.units+200 < cLine; have h3:(A.deeper (envOfC "is_rising" (defScope z2q) s.heap.objs.size f cdv)).units=A.units+3:=rfl; omega
 refine ⟨_,pss_one (ps_ret (pe_callB (cr_all rfl) rfl B.all boot_all (pa_cons
  (pe_lc (own:=[("low",1),("high",2)]) (g:=gTup K 2 (gCons (gName 1) (gCons (gName 2) gNil))) (tt:=tYes) (te:=tOp (rLtD K) (tVar 1) (tVar 2)) rfl sc_q38.nd
   (pi_zip rfl B.zip (pa_cons (pv 0) (pa_cons (pe_slice sl_list (pv 0) (po_some pe_int) po_none) pa_nil)))
   (blkOk_by (N:=z8m) (sc:=defScope z2q) (by decide +kernel))
   (fun _ _ _ _ _=>pg_tup rfl (pgs_cons (pg_name (i:=1) sc_q38.nd rfl (.inl rfl)) (pgs_cons (pg_name (i:=2) sc_q38.nd rfl (.inl rfl)) pgs_nil)))
   (fun _ _ _ _ _=>pts_nil)
   (fun _ _ _ _ _=>pe_cmpR (zi0 (by have:=hu; show A.units+3+100 < cLine; omega)) (pv 1) (pv 2) (nomark _))) pa_nil))),?_⟩
 refine ⟨_,rfl,_,rfl,1,rfl,a,xs,rfl,hS,fun p hp=>?_⟩
 rw [cut1]
 have e1:SB [] H (upd H p (.lst (xs.drop 1))):=SB.new hp _
 refine ⟨a,p,xs,xs.drop 1,rfl,e1.sqL nmn hS,SqL.of upd_same,fun D hD=>?_⟩
 have hpD:p ≠ D:=fun z=>by subst z; rw [upd_same] at hD; cases hD
 have dl:ds.length=xs.length:=(DpAll.length hDp).symm
 refine lc_it (walk_zip (n:=min xs.length (xs.drop 1).length) rfl) (fun i H2=>SB [D] (upd H p (.lst (xs.drop 1))) H2/\H2 D=some (.lst (((ltsD ds).take i).map V.bl))) ⟨SB.new hD _,upd_same⟩ (fun i H2 hi h2=>?_) (fun i x H2 H' hi h2 y=>?_) (fun H2 h2=>?_)
 ·obtain ⟨h2,h3⟩:=h2
  have h4:=h2.drop hD
  exact ⟨(e1.trans h4).sqL nmn hS,h4.sqL nmn (SqL.of upd_same)⟩
 ·obtain ⟨h2,h3⟩:=h2
  have h4:=e1.trans (h2.drop hD)
  obtain ⟨T,x1,y1,rfl,hT,rfl,ex,ey⟩:=y
  have ey:(xs.drop 1)[i]?=some y1:=ey
  rw [List.getElem?_drop,Nat.add_comm] at ey
  obtain ⟨d,ed,hd⟩:=DpAll.get hDp ex
  obtain ⟨d',ed',hd'⟩:=DpAll.get (i:=i+1) hDp ey
  have e5:SB [] H (upd H2 T (.tup [x1,y1])):=h4.trans (SB.new hT _)
  have m1:=List.mem_of_getElem? ed
  have m2:=List.mem_of_getElem? ed'
  have hTD:D ≠ T:=fun z=>by subst z; rw [h3] at hT; cases hT
  refine ⟨T,_,rfl,SqT.of upd_same,rfl,_,_,rfl,_,_,rfl,rfl,rfl,?_⟩
  refine ⟨_,rfl,_,rfl,d,d',z07 e5 _ _ (hok d m1).1 hd,z07 e5 _ _ (hok d' m2).1 hd',hal d m1 d' m2,(hok d m1).2.1,(hok d m1).2.2,_,by rw [upd_ne hTD]; exact h3,?_,?_⟩
  ·have:=z2w ds
   rw [List.length_map,List.length_take]
   exact small1000 (by omega)
  ·refine ⟨(h2.trans (SB.new hT _)).trans (SB.set (by rw [upd_ne hTD]; exact h3) (by simp) _),?_⟩
   rw [upd_same,List.take_add_one,z8y ds i d d' ed ed']
   simp
 ·obtain ⟨h2,h3⟩:=h2
  have h4:=e1.trans (h2.drop hD)
  have e6:(ltsD ds).take (min xs.length (xs.drop 1).length)=ltsD ds:=by
   apply List.take_of_length_le
   rw [z2w,List.length_drop]
   omega
  rw [e6] at h3
  exact ⟨D,_,rfl,SqL.of h3,q _ h4⟩
end
section
variable {P:Program} {w:World} {K:PySem.W.Frag} {mg:Str->Option Value} {base:Heap} {f:Addr} {fd:FuncData}
abbrev zie:List Str:=["pairs","row","thing","many"]
theorem sc_q43:FnScope zie ["pairs"] (defScope z4v):=⟨rfl,rfl,rfl,by decide +kernel,rfl,by decide +kernel,by decide +kernel⟩
theorem zgx (B:BI mg) (F:Fun K "joined" "joined" z4v f fd):FnOk P w K mg base CX0 (1) f fd ["pairs"] (z4f K Gr.tEnc):=by
 refine F.ok sc_q43 (fun vs H Q E h=>?_) (fun cdv A outer s H vs Q E hr h=>?_)
 ·obtain ⟨a,xs,bs,rfl,_⟩:=h
  rfl
 obtain ⟨a,xs,bs,rfl,hs,hb,hl,hsh,q⟩:=h
 have hun2:=hunT hr
 refine ⟨_,pss_cons (ps_set (i:=1) sc_q43.nd rfl (.inl rfl) (pe_lst pa_nil))
  (pss_cons (ps_for PassesOwn.never rfl (pi_list (pv 0)) (pg_tup rfl (pgs_cons (pg_name (i:=2) sc_q43.nd rfl (.inl rfl)) (pgs_cons (pg_name (i:=3) sc_q43.nd rfl (.inl rfl)) pgs_nil)))
   (pss_one (ps_if (PW.pt (pw_and (pt_truth (pv 1) (by intro _; rfl)) (pw_and1 (pt_cmpR (z6w (by show A.units+3+195 < cLine; omega)) (pe_ix ix_tup (pe_ix ix_list (pv 1) (pe_un un_neg pe_int) (fun _ _=>rfl)) pe_int (fun _ _=>rfl)) (pv 2) (nomark _))))) (pss_one (ps_asg (pe_tup (pa_cons (pv 2) (pa_cons (pe_op op_add (pe_ix ix_tup (pe_ix ix_list (pv 1) (pe_un un_neg pe_int) (fun _ _=>rfl)) pe_int (fun _ _=>rfl)) (pv 3)) pa_nil))) (pg_sub (pv 1) (pe_un un_neg pe_int) set_list))) (pss_one (ps_expr (pe_bm PySem.F.plainAttrs_list PySem.F.slot_list_append PySem.F.type_list_append mt_append (pv 1) (pa_cons (pe_tup (pa_cons (pv 2) (pa_cons (pv 3) pa_nil))) pa_nil)))))))
  (pss_one (ps_ret (pe_callTy call_tuple_of rfl B.tuple boot_tuple (pa_cons (pv 1) pa_nil))))),?_⟩
 refine ⟨(by show 0<=sizeLine; decide),fun D hD=>?_⟩
 have t0:=SB.new (ps:=[]) hD (.lst [])
 refine ⟨_,rfl,a,rfl,⟨xs,t0.sqL nmn hs⟩,?_⟩
 have xl:=hb.length
 refine for_list (K:=K) (a:=a) (xs:=xs) (fun i σ H2=>SB [D] H H2/\∃ acc o2 o3,σ=[some (.ref a),some (.ref D),o2,o3]/\H2 D=some (.lst acc)/\Bears K H2 (Gr.pEnc) acc (jn (bs.take i))) ⟨SB.new hD _,[],none,none,rfl,upd_same,.nil⟩ (fun i σ H2 hi h2=>(h2.1.drop hD).sqL nmn hs) (fun i x σ H2 hx h2=>?_) (fun σ H2 h2=>?_)
 ·obtain ⟨s2,acc,o2,o3,rfl,hD2,hb2⟩:=h2
  have s2':=s2.drop hD
  obtain ⟨p,ep,hpd⟩:=hb.get hx
  have pm:=List.mem_of_getElem? ep
  obtain ⟨ad,ux,rfl,hsx,hdx⟩:=z9v hpd
  have al:=hb2.length
  have jl:=z4j (bs.take i)
  rw [List.length_take] at jl
  have nl:=z4p Gr.noList_tEnc
  rw [z9s bs i p ep]
  have hdx2:=z07 s2' _ _ (Gr.noList_tEnc _) hdx
  refine ⟨ad,_,rfl,s2'.sqT hsx,rfl,_,_,rfl,_,_,rfl,rfl,?_⟩
  -- the row ahead: none,or a last one
  have app:z02 (jn (bs.take i)) p=jn (bs.take i)++[p]->tDrop (tBM K "list" rAppend (tVar 1) (tCons (tTup (tCons (tVar 2) (tCons (tVar 3) tNil))) tNil)) { nx:=fun σ H2=>SB [D] H H2/\∃ acc o2 o3,σ=[some (.ref a),some (.ref D),o2,o3]/\H2 D=some (.lst acc)/\Bears K H2 (Gr.pEnc) acc (z02 (jn (bs.take i)) p),rt:=Q } [some (.ref a),some (.ref D),some ux,some (.int p.2)] H2:=by
   intro e
   rw [e]
   refine ⟨_,rfl,.inl ⟨rfl,_,SqL.of hD2⟩,_,rfl,_,rfl,(by show 2<=sizeLine; decide),fun t ht=>?_⟩
   have t3:=SB.new (ps:=[D]) ht (.tup [ux,.int p.2])
   have hD3:(upd H2 t (.tup [ux,.int p.2])) D=some (.lst acc):=by rw [upd_ne (ne_of_none hD2 ht)]; exact hD2
   refine ⟨D,acc,_,rfl,rfl,hD3,z38 (by omega),?_⟩
   have t4:=SB.set (ps:=[D]) hD3 (by simp) (.lst (acc++[.ref t]))
   exact ⟨(s2.trans t3).trans t4,_,_,_,rfl,upd_same,Bears.append ((hb2.sb t3 nl).sb t4 nl) (.cons (z32 (t4.sqT (SqT.of upd_same)) (z07 t4 _ _ (Gr.noList_tEnc _) (z07 t3 _ _ (Gr.noList_tEnc _) hdx2))) .nil)⟩
  rcases List.eq_nil_or_concat (jn (bs.take i)) with he | ⟨js,z,he⟩
  ·rw [he] at hb2 app
   cases hb2
   refine ⟨_,rfl,_,.inl ⟨[],SqL.of hD2,rfl⟩,iteF (iteF ?_)⟩
   rw [he]
   exact app rfl
  ·rw [List.concat_eq_append] at he
   rw [he] at hb2 app
   rw [he]
   obtain ⟨us,u,rfl,hus,hu⟩:=hb2.snoc
   obtain ⟨az,uz,rfl,hsz,hdz⟩:=z9v hu
   have zsh:Wd (Gr.tEnc z.1):=by
    obtain ⟨q2,hq2,eq2⟩:=z1v (bs.take i) z (by rw [he]; simp)
    rw [<- eq2]
    exact hsh q2 (List.mem_of_mem_take hq2)
   refine ⟨_,rfl,_,.inl ⟨us++[.ref az],SqL.of hD2,rfl⟩,?_⟩
   have e0:(!(us++[V.ref az]).isEmpty)=true:=by simp
   rw [e0]
   refine iteT ?_
   refine ⟨_,rfl,1,rfl,D,_,_,_,rfl,rfl,SqL.of hD2,z77,az,_,_,_,rfl,rfl,hsz,atI_nat (j:=0) rfl,_,rfl,Gr.tEnc z.1,Gr.tEnc p.1,hdz,hdx2,zsh,hsh p pm,_,rfl,?_⟩
   rw [Gr.t_eqv]
   by_cases hz:z.1=p.1
   ·rw [show decide (z.1=p.1)=true by simp [hz]]
    refine iteT ?_
    refine ⟨_,rfl,_,rfl,1,rfl,D,_,_,_,rfl,rfl,SqL.of hD2,z77,az,_,_,_,rfl,rfl,hsz,atI_nat (j:=1) rfl,_,rfl,_,_,rfl,rfl,(by show 2<=sizeLine; decide),fun t ht=>?_⟩
    have t3:=SB.new (ps:=[D]) ht (.tup [ux,.int (z.2+p.2)])
    have hD3:(upd H2 t (.tup [ux,.int (z.2+p.2)])) D=some (.lst (us++[.ref az])):=by rw [upd_ne (ne_of_none hD2 ht)]; exact hD2
    refine ⟨_,rfl,1,rfl,D,_,_,us.length,rfl,rfl,hD3,zbz,?_⟩
    rw [zch]
    have t4:=SB.set (ps:=[D]) hD3 (by simp) (.lst (us++[.ref t]))
    refine ⟨(s2.trans t3).trans t4,_,_,_,rfl,upd_same,?_⟩
    rw [z06,if_pos hz]
    exact Bears.append ((hus.sb t3 nl).sb t4 nl) (.cons (z32 (t4.sqT (SqT.of upd_same)) (z07 t4 _ _ (Gr.noList_tEnc _) (z07 t3 _ _ (Gr.noList_tEnc _) hdx2))) .nil)
   ·rw [show decide (z.1=p.1)=false by simp [hz]]
    refine iteF ?_
    exact app (by rw [z06,if_neg hz])
 ·obtain ⟨s2,acc,o2,o3,rfl,hD2,hb2⟩:=h2
  rw [xl,List.take_length] at hb2
  refine ⟨_,rfl,D,acc,rfl,.inl ⟨SqL.of hD2,fun t ht=>?_⟩⟩
  have t3:=SB.new (ps:=[]) ht (.tup acc)
  exact q _ _ _ ((s2.drop hD).trans t3) (SqT.of upd_same) (hb2.sb t3 (z4p Gr.noList_tEnc))
theorem sc_q51:FnScope ["text","at","signs","end"] ["text","at","signs"] (defScope z5e):=⟨rfl,rfl,rfl,by decide +kernel,rfl,by decide +kernel,by decide +kernel⟩
theorem zho (B:BI mg) (F:Fun K "run_of" "run_of" z5e f fd):FnOk P w K mg base CX0 1 f fd ["text","at","signs"] (z7d K):=by
 refine F.ok sc_q51 (fun vs H Q E h=>?_) (fun cdv A outer s H vs Q E hr h=>?_)
 ·obtain ⟨z,y,k,rfl,_⟩:=h
  rfl
 obtain ⟨z,y,k,rfl,hz,hk,q⟩:=h
 refine ⟨_,pss_cons (ps_set (i:=3) sc_q51.nd rfl (.inl rfl) (pv 1))
  (pss_cons (ps_while PassesOwn.never (PW.pt (pw_and (pt_cmpR op_lt (pv 3) (pe_callB call_len_str rfl B.len PySem.boot_len (pa_cons (pv 0) pa_nil)) (nomark _)) (pw_and1 (pt_cmpR op_in_sign (pe_ix ix_str (pv 0) (pv 3) (fun _ _=>rfl)) (pv 2) (by rfl)))))
   (pss_one (ps_aug (i:=3) sc_q51.nd rfl (.inl rfl) pe_int ip_add)))
  (pss_one (ps_ret (pe_slice sl_str (pv 0) (po_some (pv 1)) (po_some (pv 3)))))),?_⟩
 have hzl:z.length<=sizeLine:=by have:=sizeLine_eq; omega
 have hl:=z4u z
 refine ⟨_,rfl,?_⟩
 refine ⟨fun mm σ H2=>∃ e:Nat,mm=z.length-e/\H2=H/\σ=[some (.str z),some (.int (k:Int)),some (.str y),some (.int (e:Int))]/\k<=e/\e<=z.length/\(∀ j c,k<=j->j < e->z.cps.toList[j]?=some c->c ∈ y.cps.toList),⟨_,k,rfl,rfl,rfl,Nat.le_refl _,hk,fun j c h1 h2 _=>by omega⟩,fun mm σ H2 h2=>?_⟩
 obtain ⟨e,rfl,rfl,rfl,ke,el,hin⟩:=h2
 refine ⟨_,rfl,_,rfl,z,rfl,hzl,_,_,rfl,rfl,_,rfl,?_⟩
 have fin:(∀ c,z.cps.toList[e]?=some c->c ∉ y.cps.toList)->Q (.str (cutS z (some (k:Int)) (some (e:Int)))) H2:=fun ho=>q e ke el hin ho
 by_cases hlt:e < z.length
 ·rw [show decide ((e:Int) < (z.length:Int))=true from decide_eq_true (by omega)]
  refine iteT ?_
  obtain ⟨c,hc⟩:∃ c,z.cps.toList[e]?=some c:=⟨_,List.getElem?_eq_getElem (by omega)⟩
  refine ⟨_,rfl,_,rfl,z,_,c,rfl,rfl,hzl,z6j hc,_,rfl,c,y,rfl,rfl,_,rfl,?_⟩
  by_cases hm:c ∈ y.cps.toList
  ·rw [decide_eq_true hm]
   refine iteT ?_
   refine ⟨_,fun σ' H' z=>z,?_⟩
   refine ⟨_,rfl,_,_,rfl,rfl,z.length-(e+1),by omega,e+1,rfl,rfl,rfl,by omega,by omega,fun j c' h1 h2 h3=>?_⟩
   rcases Nat.lt_or_ge j e with h | h
   ·exact hin j c' h1 h h3
   ·have:j=e:=by omega
    subst this
    rw [hc] at h3; cases h3; exact hm
  ·rw [decide_eq_false hm]
   refine iteF ?_
   refine ⟨_,rfl,_,rfl,_,rfl,_,rfl,_,rfl,z,rfl,hzl,fin fun c' h'=>?_⟩
   rw [hc] at h'; cases h'; exact hm
 ·rw [show decide ((e:Int) < (z.length:Int))=false from decide_eq_false (by omega)]
  refine iteF (iteF ?_)
  refine ⟨_,rfl,_,rfl,_,rfl,_,rfl,_,rfl,z,rfl,hzl,fin fun c' h'=>?_⟩
  have:=(List.getElem?_eq_some_iff.mp h').1
  omega
theorem zgz:FnScope ["thing"] ["thing"] (defScope z5a):=⟨rfl,rfl,rfl,by decide +kernel,rfl,by decide +kernel,by decide +kernel⟩
theorem zc9 {ps:List Str} {k:Nat}:FnOk P w K mg base CX0 k f fd ps (z1u K 0):=z1n fun vs H Q E ⟨v,d,_,_,h,_⟩=>by omega
theorem zhl {n:Nat} (B:BI mg) (GN:Got P w K mg base "is_name" ["thing"] 2 (z71 K)) (G:Got P w K mg base "is_grove" ["thing"] (n+3) (z1m K n)) (F:Fun K "is_tree" "is_tree" z5a f fd) :
  FnOk P w K mg base CX0 (n+4) f fd ["thing"] (z1u K (n+1)):=by
 refine F.ok zgz (fun vs H Q E h=>?_) (fun cdv A outer s H vs Q E hr h=>?_)
 ·obtain ⟨v,l,rfl,_⟩:=h
  rfl
 obtain ⟨v,d,rfl,th,hd,h80,hw,q⟩:=h
 refine ⟨_,pss_one (ps_ret (pe_and (z0z B (pv 0) B.tuple boot_tuple) (pe_and (pe_cmpR op_eq (pe_callB call_len_seq rfl B.len PySem.boot_len (pa_cons (pv 0) pa_nil)) pe_int (nomark _))
  (pe_and (z00 GN (hr.mono (by omega)) rfl (pa_cons (pe_ix ix_tup (pv 0) pe_int (fun _ _=>rfl)) pa_nil)) (pe_one (z00 G hr rfl (pa_cons (pe_ix ix_tup (pv 0) pe_int (fun _ _=>rfl)) pa_nil))))))),?_⟩
 obtain ⟨n1,b,ty,kb,y1,y2⟩:=th.ty
 refine ⟨_,rfl,_,_,n1,b,rfl,ty,kb,b,rfl,?_⟩
 cases b with
 | false =>
  refine iteF ?_
  have e:z0l d=false:=by
   cases d with
   | tuple ds=>exact absurd rfl (y2 rfl ds)
   | _=>simp [z0l]
  have:=q H SB.refl
  rw [e] at this
  exact this
 | true =>
 refine iteT ?_
 obtain ⟨a,xs,ds,rfl,rfl,hs,ha⟩:=y1 rfl
 refine ⟨_,rfl,a,xs,rfl,.inr hs,rfl,_,rfl,?_⟩
 have hl:=TgAll.length ha
 refine ite2 (fun c=>?_) (fun c=>?_)
 ·have c':V.int (xs.length:Nat)=V.int 2:=of_decide_eq_true c
  injection c' with c'
  have c2:xs.length=2:=by omega
  cases ha with
  | nil=>simp at c2
  | cons t1 ta =>
   cases ta with
   | nil=>simp at c2
   | cons t2 ta =>
    cases ta with
    | cons t3 ta=>simp at c2
    | nil =>
     rename_i v1 d1 v2 d2
     have q1:d2.depth < PyData.depth (.tuple [d1,d2]):=by simp only [PyData.depth,PyData.depthAll]; omega
     have q2:wide d2<=wide (.tuple [d1,d2]):=by simp only [wide,z16]; omega
     refine ⟨_,rfl,a,_,_,_,rfl,rfl,hs,atI_nat (j:=0) rfl,v1,d1,rfl,t1,fun H1 h1=>?_⟩
     refine ⟨_,rfl,?_⟩
     cases e1:z1d d1 with
     | false =>
      refine iteF ?_
      have:=q H1 h1
      have e:z0l (.tuple [d1,d2])=false:=by simp [z0l,trD2,e1]
      rw [e] at this
      exact this
     | true =>
      refine iteT ?_
      refine ⟨_,rfl,a,_,_,_,rfl,rfl,h1.sqT hs,atI_nat (j:=1) rfl,v2,d2,rfl,z25 h1 t2,by omega,by omega,by omega,fun H2 h2=>?_⟩
      have:=q H2 (h1.trans h2)
      have e:z0l (.tuple [d1,d2])=z08 d2:=by simp [z0l,trD2,trD3,e1]
      rw [e] at this
      exact this
 ·have c':¬ V.int (xs.length:Nat)=V.int 2:=of_decide_eq_false (Bool.eq_false_iff.mpr c)
  have c2:¬ xs.length=2:=fun z=>c' (by rw [z]; rfl)
  have e:z0l (.tuple ds)=false:=by
   cases e:z0l (.tuple ds) with
   | false=>rfl
   | true =>
    obtain ⟨t,e2⟩:=z8q _ e
    injection e2 with e2
    rw [e2] at hl
    exact absurd hl c2
  have:=q H SB.refl
  rw [e] at this
  exact this
abbrev zez:List Str:=["thing","pair"]
theorem sc_q34:FnScope zez ["thing"] (defScope z45):=⟨rfl,rfl,rfl,by decide +kernel,rfl,by decide +kernel,by decide +kernel⟩
theorem zcd {ps:List Str} {k:Nat}:FnOk P w K mg base CX0 k f fd ps (z1m K 0):=z1n fun vs H Q E ⟨v,d,_,_,h,_⟩=>by omega
theorem zbd (bs:List (Tr × Int)):(bs.map Gr.pEnc).map exp0=bs.map fun p=>Gr.tEnc p.1:=by rw [List.map_map]; rfl
theorem z62:∀ bs:List (Tr × Int),z05 (bs.map fun p=>Gr.tEnc p.1)=true
 | []=>by simp [z05]
 | p::r=>by rw [List.map_cons,z05,z62 r,Gr.noList_tEnc]; rfl
theorem zhs {n:Nat} (B:BI mg) (GR:Got P w K mg base "is_rising" ["things"] 1 (z6h K)) (G:Got P w K mg base "are_grove_pairs" ["things"] (n+3) (z1z K true n)) (F:Fun K "is_grove" "is_grove" z45 f fd) :
  FnOk P w K mg base CX0 (n+4) f fd ["thing"] (z1m K (n+1)):=by
 refine F.ok sc_q34 (fun vs H Q E h=>?_) (fun cdv A outer s H vs Q E hr h=>?_)
 ·obtain ⟨v,l,rfl,_⟩:=h
  rfl
 obtain ⟨v,d,rfl,th,hd,h80,hw,q⟩:=h
 refine ⟨_,pss_cons (ps_if (PW.pt (pw_or (pt_not (pt_val (z0z B (pv 0) B.tuple boot_tuple))) (pw_or1 (pt_not (pt_val (z00 G hr rfl (pa_cons (pv 0) pa_nil))))))) (pss_one (ps_ret pe_bl)) pss_nil)
  (pss_one (ps_ret (z00 GR (hr.mono (by omega)) rfl (pa_cons (pe_lc (own:=[("pair",1)]) (g:=gName 1) (tt:=tYes) (te:=tOp (rIxT K) (tVar 1) (tC (.int 0))) rfl sc_q34.nd
   (pi_tup (pv 0))
   (blkOk_by (N:=zez) (sc:=defScope z45) (by decide +kernel))
   (fun _ _ _ _ _=>pg_name (i:=1) sc_q34.nd rfl (.inl rfl))
   (fun _ _ _ _ _=>pts_nil)
   (fun _ _ _ _ _=>pe_ix ix_tup (pv 1) pe_int (fun _ _=>rfl))) pa_nil)))),?_⟩
 obtain ⟨n1,b,ty,kb,y1,y2⟩:=th.ty
 refine ⟨_,rfl,_,_,n1,b,rfl,ty,kb,b,rfl,?_⟩
 cases b with
 | false =>
  refine iteT (iteT ?_)
  have e:z08 d=false:=by
   cases d with
   | tuple ds=>exact absurd rfl (y2 rfl ds)
   | _=>simp [z08]
  have:=q H SB.refl
  rw [e] at this
  exact this
 | true =>
 refine iteF ?_
 obtain ⟨a,xs,ds,rfl,rfl,hs,ha⟩:=y1 rfl
 have hl:=TgAll.length ha
 have m3:PyData.depth (.tuple ds)=PyData.depthAll ds+1:=by simp [PyData.depth]
 refine ⟨_,rfl,a,xs,ds,rfl,by simpa using hs,ha,by omega,by omega,hw,fun H2 h2=>⟨_,rfl,?_⟩⟩
 cases e1:grPs ds with
 | false =>
  refine iteT ?_
  have:=q H2 h2
  rw [z08,e1] at this
  exact this
 | true =>
  refine iteF ?_
  obtain ⟨g,rfl⟩:=z6g ds e1
  have hga:GA K H (.ref a) g:=Dp.tup hs (z3v g ha)
  obtain ⟨a',xs',e',hs',hb⟩:=z0g (hga.sb h2)
  cases e'
  have hlen:=hb.length
  have gl:g.encs.length=g.ps.length:=by rw [Gr.encs_ps,List.length_map]
  rw [z3z] at hw
  refine ⟨_,rfl,a,rfl,⟨xs',hs'⟩,fun D hD=>?_⟩
  refine lc_it (walk_tup (xs:=xs')) (fun i H3=>SB [D] H2 H3/\∃ acc,H3 D=some (.lst acc)/\DpAll K H3 acc ((g.ps.take i).map fun p=>Gr.tEnc p.1)) ⟨SB.new hD _,[],upd_same,.nil⟩ (fun i H3 hi h3=>(h3.1.drop hD).sqT hs') (fun i x H3 H' hi h3 y=>?_) (fun H3 h3=>?_)
  ·obtain ⟨h3,acc,h4,h5⟩:=h3
   obtain ⟨rfl,ex⟩:=y
   obtain ⟨p,ep,hpd⟩:=hb.get ex
   obtain ⟨ad,bd,ux,rfl,hsx,hst,hdx,hdt⟩:=z0h hpd
   have h6:=h3.drop hD
   have hla2:=DpAll.length h5
   refine ⟨rfl,?_⟩
   refine ⟨_,rfl,ad,_,_,_,rfl,rfl,h6.sqT hsx,atI_nat (j:=0) rfl,acc,h4,?_,?_⟩
   ·rw [hla2,List.length_map,List.length_take]
    exact small1000 (by omega)
   ·have h7:=SB.set (ps:=[D]) h4 (by simp) (.lst (acc++[.ref bd]))
    refine ⟨h3.trans h7,_,upd_same,?_⟩
    rw [List.take_add_one,ep,List.map_append]
    exact DpAll.append (z6l h7 _ _ (z62 _) h5) (.cons (z07 h7 _ _ (Gr.noList_tEnc _) (z07 h6 _ _ (Gr.noList_tEnc _) hdt)) .nil)
  ·obtain ⟨h3',acc,h4,h5⟩:=h3
   rw [hlen,List.take_length] at h5
   have h6:=h3'.drop hD
   have hla2:=DpAll.length h5
   refine ⟨D,acc,g.ps.map fun p=>Gr.tEnc p.1,rfl,SqL.of h4,h5,?_,?_,?_,fun H9 h9=>?_⟩
   ·intro d hd'
    obtain ⟨p1,m1,rfl⟩:=List.mem_map.mp hd'
    have hd2:(Gr.pEnc p1).depth<=PyData.depthAll g.encs:=PyData.depth_le_depthAll _ _ (by rw [Gr.encs_ps]; exact List.mem_map_of_mem m1)
    have hd3:(Gr.tEnc p1.1).depth < (Gr.pEnc p1).depth:=by
     show _ < (PyData.tuple [Gr.tEnc p1.1,.int p1.2]).depth
     simp only [PyData.depth,PyData.depthAll]; omega
    exact ⟨Gr.noList_tEnc _,(fun z:Gr.tEnc p1.1=.none=>by simp [Gr.tEnc] at z),by omega⟩
   ·intro d hd' d2 hd2
    obtain ⟨p1,_,rfl⟩:=List.mem_map.mp hd'
    obtain ⟨p2,_,rfl⟩:=List.mem_map.mp hd2
    exact Orderly.al (enc:=Gr.tEnc) _ _
   ·rw [hla2,List.length_map]; omega
   ·have:=q H9 ((h2.trans h6).trans h9)
    rw [z08,e1,Bool.true_and,Gr.encs_ps,zbd] at this
    exact this
abbrev z9i:List Str:=["things","thing"]
theorem sc_q17:FnScope z9i ["things"] (defScope z3q):=⟨rfl,rfl,rfl,by decide +kernel,rfl,by decide +kernel,by decide +kernel⟩
theorem zco {ps:List Str} {tp:Bool} {k:Nat}:FnOk P w K mg base CX0 k f fd ps (z1z K tp 0):=z1n fun vs H Q E ⟨a,xs,ds,_,_,_,h,_⟩=>by omega
theorem z2h:∀ ds:List PyData,grPs ds=ds.all grP
 | []=>by rw [grPs]; rfl
 | d::ds=>by rw [grPs,z2h ds]; rfl
theorem zgk {n:Nat} (B:BI mg) (GM:Got P w K mg base "is_many" ["thing"] 2 (z6q K [])) (G:Got P w K mg base "is_tree" ["thing"] (n+3) (z1u K n)) (F:Fun K "are_grove_pairs" "are_grove_pairs" z3q f fd) :
  FnOk P w K mg base CX0 (n+4) f fd ["things"] (z1z K true (n+1)):=by
 refine F.ok sc_q17 (fun vs H Q E h=>?_) (fun cdv A outer s H vs Q E hr h=>?_)
 ·obtain ⟨a,xs,ds,rfl,_⟩:=h
  rfl
 obtain ⟨a,xs,ds,rfl,hs,ha,hd,h79,hw,q⟩:=h
 refine ⟨_,pss_cons (ps_for PassesOwn.never rfl (pi_tup (pv 0)) (pg_name (i:=1) sc_q17.nd rfl (.inl rfl))
   (pss_cons (ps_if (PW.pt (pw_or (pt_not (pt_val (z0z B (pv 1) B.tuple boot_tuple))) (pw_or1 (pt_cmpR op_ne (pe_callB call_len_seq rfl B.len PySem.boot_len (pa_cons (pv 1) pa_nil)) pe_int (nomark _))))) (pss_one (ps_ret pe_bl)) pss_nil)
   (pss_one (ps_if (PW.pt (pw_or (pt_not (pt_val (z00 G hr rfl (pa_cons (pe_ix ix_tup (pv 1) pe_int (fun _ _=>rfl)) pa_nil)))) (pw_or1 (pt_not (pt_val (z00 GM (hr.mono (by omega)) rfl (pa_cons (pe_ix ix_tup (pv 1) pe_int (fun _ _=>rfl)) pa_nil))))))) (pss_one (ps_ret pe_bl)) pss_nil))))
  (pss_one (ps_ret pe_bl)),?_⟩
 have hs:SqT K H a xs:=by simpa using hs
 have hl:=TgAll.length ha
 rw [z3z] at hw
 refine ⟨_,rfl,a,rfl,⟨xs,hs⟩,?_⟩
 refine for_tup (K:=K) (a:=a) (xs:=xs) (fun i σ H2=>SB [] H H2/\(∃ o,σ=[some (.ref a),o])/\(ds.take i).all grP=true) ⟨SB.refl,⟨none,rfl⟩,by simp⟩ (fun i σ H2 hi h2=>h2.1.sqT hs) (fun i x σ H2 hx h2=>?_) (fun σ H2 h2=>?_)
 ·obtain ⟨h2,⟨o,rfl⟩,h3⟩:=h2
  obtain ⟨dx,ex,tx⟩:=TgAll.get ha hx
  have mx:=List.mem_of_getElem? ex
  have m1:=z49 ex
  have m2:=z6k _ _ mx
  have no:grP dx=false->∀ H',SB [] H2 H'->Q (.bl false) H':=fun e H' s'=>by
   have:=q H' (h2.trans s')
   have e2:grPs ds=false:=by
    rw [z2h,List.all_eq_false]
    exact ⟨dx,mx,by rw [e]; exact Bool.false_ne_true⟩
   rw [e2] at this
   exact this
  obtain ⟨n1,b,ty,kb,y1,y2⟩:=(z25 h2 tx).ty
  refine ⟨_,rfl,_,_,n1,b,rfl,ty,kb,b,rfl,?_⟩
  cases b with
  | false =>
   refine iteT (iteT (no ?_ _ SB.refl))
   cases dx with
   | tuple ds=>exact absurd rfl (y2 rfl ds)
   | _=>simp [grP]
  | true =>
  refine iteF ?_
  obtain ⟨b1,ys,es,rfl,rfl,hs1,ha1⟩:=y1 rfl
  refine ⟨_,rfl,b1,ys,rfl,.inr hs1,rfl,_,rfl,?_⟩
  have hl1:=TgAll.length ha1
  by_cases c2:ys.length=2
  ·rw [show (!decide (V.int (ys.length:Nat)=V.int 2))=false by rw [c2]; rfl]
   refine iteF ?_
   cases ha1 with
   | nil=>simp at c2
   | cons t1 ta =>
    cases ta with
    | nil=>simp at c2
    | cons t2 ta =>
     cases ta with
     | cons t3 ta=>simp at c2
     | nil =>
      rename_i v1 d1 v2 d2
      have q1:d1.depth < PyData.depth (.tuple [d1,d2]):=by simp only [PyData.depth,PyData.depthAll]; omega
      have q2:wide d1<=wide (.tuple [d1,d2]):=by simp only [wide,z16]; omega
      refine ⟨_,rfl,b1,_,_,_,rfl,rfl,hs1,atI_nat (j:=0) rfl,v1,d1,rfl,t1,by omega,by omega,by omega,fun H3 h3'=>?_⟩
      refine ⟨_,rfl,?_⟩
      cases e1:z0l d1 with
      | false=>exact iteT (iteT (no (by simp [grP,grP2,e1]) _ h3'))
      | true =>
       refine iteF ?_
       refine ⟨_,rfl,b1,_,_,_,rfl,rfl,h3'.sqT hs1,atI_nat (j:=1) rfl,v2,z24 d2,rfl,(z25 h3' t2).th,_,rfl,?_⟩
       rw [z6s]
       have e:grP (.tuple [d1,d2])=z0w d2:=by simp [grP,grP2,z11,e1]
       cases e2:z0w d2 with
       | false=>exact iteT (no (by rw [e,e2]) _ h3')
       | true =>
        refine iteF ⟨h2.trans h3',⟨_,rfl⟩,?_⟩
        rw [List.take_add_one,ex,List.all_append,h3]
        simp [e,e2]
  ·rw [show (!decide (V.int (ys.length:Nat)=V.int 2))=true by rw [decide_eq_false (fun z=>by injection z with z; omega)]; rfl]
   refine iteT (no ?_ _ SB.refl)
   cases e:grP (.tuple es) with
   | false=>rfl
   | true =>
    obtain ⟨t,i,e2,_⟩:=z7c _ e
    injection e2 with e2
    rw [e2] at hl1
    exact absurd hl1 c2
 ·obtain ⟨h2,⟨o,rfl⟩,h3⟩:=h2
  rw [hl,List.take_length,<- z2h] at h3
  have:=q H2 h2
  rw [h3] at this
  exact this
theorem z48 {n:Nat} (B:BI mg) (GM:Got P w K mg base "is_many" ["thing"] 2 (z6q K [])) (G:Got P w K mg base "is_tree" ["thing"] (n+3) (z1u K n)) (F:Fun K "are_grove_pairs" "are_grove_pairs" z3q f fd) :
  FnOk P w K mg base CX0 (n+4) f fd ["things"] (z1z K false (n+1)):=by
 refine F.ok sc_q17 (fun vs H Q E h=>?_) (fun cdv A outer s H vs Q E hr h=>?_)
 ·obtain ⟨a,xs,ds,rfl,_⟩:=h
  rfl
 obtain ⟨a,xs,ds,rfl,hs,ha,hd,h79,hw,q⟩:=h
 refine ⟨_,pss_cons (ps_for PassesOwn.never rfl (pi_list (pv 0)) (pg_name (i:=1) sc_q17.nd rfl (.inl rfl))
   (pss_cons (ps_if (PW.pt (pw_or (pt_not (pt_val (z0z B (pv 1) B.tuple boot_tuple))) (pw_or1 (pt_cmpR op_ne (pe_callB call_len_seq rfl B.len PySem.boot_len (pa_cons (pv 1) pa_nil)) pe_int (nomark _))))) (pss_one (ps_ret pe_bl)) pss_nil)
   (pss_one (ps_if (PW.pt (pw_or (pt_not (pt_val (z00 G hr rfl (pa_cons (pe_ix ix_tup (pv 1) pe_int (fun _ _=>rfl)) pa_nil)))) (pw_or1 (pt_not (pt_val (z00 GM (hr.mono (by omega)) rfl (pa_cons (pe_ix ix_tup (pv 1) pe_int (fun _ _=>rfl)) pa_nil))))))) (pss_one (ps_ret pe_bl)) pss_nil))))
  (pss_one (ps_ret pe_bl)),?_⟩
 have hs:SqL K H a xs:=by simpa using hs
 have hl:=TgAll.length ha
 rw [z3z] at hw
 refine ⟨_,rfl,a,rfl,⟨xs,hs⟩,?_⟩
 refine for_list (K:=K) (a:=a) (xs:=xs) (fun i σ H2=>SB [] H H2/\(∃ o,σ=[some (.ref a),o])/\(ds.take i).all grP=true) ⟨SB.refl,⟨none,rfl⟩,by simp⟩ (fun i σ H2 hi h2=>h2.1.sqL nmn hs) (fun i x σ H2 hx h2=>?_) (fun σ H2 h2=>?_)
 ·obtain ⟨h2,⟨o,rfl⟩,h3⟩:=h2
  obtain ⟨dx,ex,tx⟩:=TgAll.get ha hx
  have mx:=List.mem_of_getElem? ex
  have m1:=z49 ex
  have m2:=z6k _ _ mx
  have no:grP dx=false->∀ H',SB [] H2 H'->Q (.bl false) H':=fun e H' s'=>by
   have:=q H' (h2.trans s')
   have e2:grPs ds=false:=by
    rw [z2h,List.all_eq_false]
    exact ⟨dx,mx,by rw [e]; exact Bool.false_ne_true⟩
   rw [e2] at this
   exact this
  obtain ⟨n1,b,ty,kb,y1,y2⟩:=(z25 h2 tx).ty
  refine ⟨_,rfl,_,_,n1,b,rfl,ty,kb,b,rfl,?_⟩
  cases b with
  | false =>
   refine iteT (iteT (no ?_ _ SB.refl))
   cases dx with
   | tuple ds=>exact absurd rfl (y2 rfl ds)
   | _=>simp [grP]
  | true =>
  refine iteF ?_
  obtain ⟨b1,ys,es,rfl,rfl,hs1,ha1⟩:=y1 rfl
  refine ⟨_,rfl,b1,ys,rfl,.inr hs1,rfl,_,rfl,?_⟩
  have hl1:=TgAll.length ha1
  by_cases c2:ys.length=2
  ·rw [show (!decide (V.int (ys.length:Nat)=V.int 2))=false by rw [c2]; rfl]
   refine iteF ?_
   cases ha1 with
   | nil=>simp at c2
   | cons t1 ta =>
    cases ta with
    | nil=>simp at c2
    | cons t2 ta =>
     cases ta with
     | cons t3 ta=>simp at c2
     | nil =>
      rename_i v1 d1 v2 d2
      have q1:d1.depth < PyData.depth (.tuple [d1,d2]):=by simp only [PyData.depth,PyData.depthAll]; omega
      have q2:wide d1<=wide (.tuple [d1,d2]):=by simp only [wide,z16]; omega
      refine ⟨_,rfl,b1,_,_,_,rfl,rfl,hs1,atI_nat (j:=0) rfl,v1,d1,rfl,t1,by omega,by omega,by omega,fun H3 h3'=>?_⟩
      refine ⟨_,rfl,?_⟩
      cases e1:z0l d1 with
      | false=>exact iteT (iteT (no (by simp [grP,grP2,e1]) _ h3'))
      | true =>
       refine iteF ?_
       refine ⟨_,rfl,b1,_,_,_,rfl,rfl,h3'.sqT hs1,atI_nat (j:=1) rfl,v2,z24 d2,rfl,(z25 h3' t2).th,_,rfl,?_⟩
       rw [z6s]
       have e:grP (.tuple [d1,d2])=z0w d2:=by simp [grP,grP2,z11,e1]
       cases e2:z0w d2 with
       | false=>exact iteT (no (by rw [e,e2]) _ h3')
       | true =>
        refine iteF ⟨h2.trans h3',⟨_,rfl⟩,?_⟩
        rw [List.take_add_one,ex,List.all_append,h3]
        simp [e,e2]
  ·rw [show (!decide (V.int (ys.length:Nat)=V.int 2))=true by rw [decide_eq_false (fun z=>by injection z with z; omega)]; rfl]
   refine iteT (no ?_ _ SB.refl)
   cases e:grP (.tuple es) with
   | false=>rfl
   | true =>
    obtain ⟨t,i,e2,_⟩:=z7c _ e
    injection e2 with e2
    rw [e2] at hl1
    exact absurd hl1 c2
 ·obtain ⟨h2,⟨o,rfl⟩,h3⟩:=h2
  rw [hl,List.take_length,<- z2h] at h3
  have:=q H2 h2
  rw [h3] at this
  exact this
abbrev zj2:List Str:=["one","other"]
theorem zhh:FnScope zj2 ["one","other"] (defScope z5l):=⟨rfl,rfl,rfl,by decide +kernel,rfl,by decide +kernel,by decide +kernel⟩
theorem zh5 (B:BI mg) (G_q43:Got P w K mg base "joined" ["pairs"] (1) (z4f K Gr.tEnc)) (F:Fun K "together" "together" z5l f fd):FnOk P w K mg base CX0 (2) f fd ["one","other"] (z23 K):=by
 refine F.ok zhh (fun vs H Q E h=>?_) (fun cdv A outer s H vs Q E hr h=>?_)
 ·obtain ⟨v,u,g,k,rfl,_⟩:=h
  rfl
 obtain ⟨v,u,g,k,rfl,hv,hu,⟨C,go,ko⟩,gd,kd,gp,kp,q⟩:=h
 have hun2:=hunT hr
 refine ⟨_,pss_one (ps_ret (z00 G_q43 (hr.mono (by omega)) rfl (pa_cons (pe_callB (zav Gr.pEnc (by show A.units+3+195 < cLine; omega)) rfl B.sorted (by decide +kernel) (pa_cons (pe_op z73 (pv 0) (pv 1)) pa_nil)) pa_nil))),?_⟩
 obtain ⟨a,xs,rfl,hsa,hba⟩:=z0g hv
 obtain ⟨b,ys,rfl,hsb,hbb⟩:=z0g hu
 have xl:=hba.length
 have yl:=hbb.length
 have hok:∀ p ∈ g.ps++k.ps,z01 p.1.1/\p.1.2.Ok C/\p.1.2.deep<=62:=fun p hp=>by
  rcases List.mem_append.mp hp with h | h
  ·have h1:=(Gr.ok_iff.mp go).1 p h
   have h2:=g.mem_deep p h
   exact ⟨h1.1,h1.2.1,by omega⟩
  ·have h1:=(Gr.ok_iff.mp ko).1 p h
   have h2:=k.mem_deep p h
   exact ⟨h1.1,h1.2.1,by omega⟩
 refine ⟨_,rfl,_,rfl,a,b,xs,ys,rfl,rfl,hsa,hsb,by have:=z38 (n:=xs.length+ys.length) (by omega); omega,fun c H1 s1 hc=>?_⟩
 refine ⟨c,_,g.ps++k.ps,rfl,.inr hc,Bears.append (hba.sb s1 Gr.noList_pEnc) (hbb.sb s1 Gr.noList_pEnc),Gr.pEnc_all _,Gr.pEnc_sortable _,by rw [List.length_append]; omega,fun p hp=>?_,fun p zs hp hz=>?_⟩
 ·have:=Gr.pEnc_depth p
  have:=(hok p hp).2.2
  omega
 have s2:=SB.new (ps:=[]) hp (.lst zs)
 refine ⟨p,zs,srtE Gr.pEnc (g.ps++k.ps),rfl,SqL.of upd_same,hz.sb s2 Gr.noList_pEnc,?_,fun b hb=>?_,fun c2 ws H3 s3 hc2 hb3=>?_⟩
 ·rw [(z0t _).length_eq,List.length_append]; omega
 ·obtain ⟨h1,h2,h3⟩:=hok b ((z0t _).mem_iff.mp hb)
  exact Gr.wd_t h1 h2 (by omega)
 ·exact q _ _ ((s1.trans s2).trans s3) (z2i hc2 hb3)
abbrev zj5:List Str:=["grove","tree","many","left","other","count"]
theorem sc_q58:FnScope zj5 ["grove","tree","many"] (defScope z56):=⟨rfl,rfl,rfl,by decide +kernel,rfl,by decide +kernel,by decide +kernel⟩
theorem zgv (B:BI mg) (F:Fun K "without" "without" z56 f fd):FnOk P w K mg base CX0 (1) f fd ["grove","tree","many"] (z4g K):=by
 refine F.ok sc_q58 (fun vs H Q E h=>?_) (fun cdv A outer s H vs Q E hr h=>?_)
 ·obtain ⟨v,u,g,t,m,rfl,_⟩:=h
  rfl
 obtain ⟨v,u,g,t,m,rfl,hv,hu,⟨C,go,to⟩,tn,gd,td,gl,q⟩:=h
 have hun2:=hunT hr
 refine ⟨_,pss_cons (ps_set (i:=3) sc_q58.nd rfl (.inl rfl) (pe_lst pa_nil))
  (pss_cons (ps_for PassesOwn.never rfl (pi_tup (pv 0)) (pg_tup rfl (pgs_cons (pg_name (i:=4) sc_q58.nd rfl (.inl rfl)) (pgs_cons (pg_name (i:=5) sc_q58.nd rfl (.inl rfl)) pgs_nil)))
   (pss_one (ps_if (pt_cmpR (zbw (by show A.units+3+195 < cLine; omega)) (pv 4) (pv 1) (nomark _)) (pss_one (ps_expr (pe_bm PySem.F.plainAttrs_list PySem.F.slot_list_append PySem.F.type_list_append mt_append (pv 3) (pa_cons (pe_tup (pa_cons (pv 4) (pa_cons (pv 5) pa_nil))) pa_nil)))) (pss_one (ps_if (pt_cmpR op_gt (pv 5) (pv 2) (nomark _)) (pss_one (ps_expr (pe_bm PySem.F.plainAttrs_list PySem.F.slot_list_append PySem.F.type_list_append mt_append (pv 3) (pa_cons (pe_tup (pa_cons (pv 4) (pa_cons (pe_op op_sub (pv 5) (pv 2)) pa_nil))) pa_nil)))) pss_nil)))))
  (pss_one (ps_ret (pe_callTy call_tuple_of rfl B.tuple boot_tuple (pa_cons (pv 3) pa_nil))))),?_⟩
 have szl:=sizeLine_eq
 obtain ⟨a,xs,rfl,hs,hb⟩:=z0g hv
 have xl:=hb.length
 refine ⟨by show 0<=sizeLine; decide,fun D nD=>?_⟩
 have t1:=SB.new (ps:=[]) nD (.lst [])
 have hD1:upd H D (.lst []) D=some (.lst []):=upd_same
 generalize upd H D (.lst [])=H1 at t1 hD1
 refine ⟨_,rfl,a,rfl,⟨xs,t1.sqT hs⟩,?_⟩
 refine for_it (walk_tup (xs:=xs)) (fun i σ H2=>∃ (us:List V) (o4 o5:Option V),σ=[some (.ref a),some u,some (.int m),some (.ref D),o4,o5]/\SB [D] H1 H2/\H2 D=some (.lst us)/\Bears K H2 Gr.pEnc us (Gr.woL t m (g.ps.take i))/\us.length<=i)
  ⟨[],none,none,rfl,SB.refl,hD1,.nil,Nat.le_refl _⟩ (fun i σ H2 hi h2=>by obtain ⟨_,_,_,_,s,_⟩:=h2; exact s.sqT (t1.sqT hs)) (fun i x σ H2 H' hi h2 y=>?_) (fun σ H2 h2=>?_)
 ·obtain ⟨us,o4,o5,rfl,s2,hD2,hb2,ul⟩:=h2
  obtain ⟨rfl,ey⟩:=y
  obtain ⟨p,ep,hpd⟩:=hb.get ey
  have pm:=List.mem_of_getElem? ep
  obtain ⟨n1,o1,_,_⟩:=Gr.ok_mem go pm
  have pd:=g.mem_deep p pm
  have s02:SB [] H H':=((t1.nil (ps:=[D])).trans s2).drop nD
  obtain ⟨ad,bd,ux,rfl,h1,h2,h3,h4⟩:=z0h hpd
  have h4':=z07 s02 _ _ (Gr.noList_tEnc _) h4
  have hst:Gr.woL t m (g.ps.take (i+1))=Gr.woL t m (g.ps.take i)++Gr.woL t m [p]:=by rw [List.take_add_one,ep,Gr.woL_append]; rfl
  refine ⟨ad,_,rfl,s02.sqT h1,rfl,_,_,rfl,_,_,rfl,rfl,?_⟩
  refine ⟨_,rfl,_,rfl,Gr.tEnc p.1,Gr.tEnc t,h4',z07 s02 _ _ (Gr.noList_tEnc _) hu,Gr.wd_t n1 o1 (by omega),Gr.wd_t tn to td,_,rfl,?_⟩
  rw [Gr.t_eqv]
  -- what is put behind
  have app:∀ c:Int,Gr.woL t m [p]=[(p.1,c)]->∀ (T:Addr),H' T=none->∃ us' o4' o5',[some (V.ref a),some u,some (.int m),some (.ref D),some (.ref bd),some (.int p.2)]=[some (.ref a),some u,some (.int m),some (.ref D),o4',o5']/\SB [D] H1 (upd (upd H' T (.tup [.ref bd,.int c])) D (.lst (us++[.ref T])))/\upd (upd H' T (.tup [.ref bd,.int c])) D (.lst (us++[.ref T])) D=some (.lst us')/\Bears K (upd (upd H' T (.tup [.ref bd,.int c])) D (.lst (us++[.ref T]))) Gr.pEnc us' (Gr.woL t m (g.ps.take (i+1)))/\us'.length<=i+1:=fun c e T nT=>by
   have t3:=SB.new (ps:=[D]) nT (.tup [.ref bd,.int c])
   have hD3:upd H' T (.tup [.ref bd,.int c]) D=some (.lst us):=by rw [upd_ne (ne_of_none hD2 nT)]; exact hD2
   have t4:=SB.set (ps:=[D]) hD3 (by simp) (.lst (us++[.ref T]))
   refine ⟨us++[.ref T],_,_,rfl,(s2.trans t3).trans t4,upd_same,?_,by rw [List.length_append]; show us.length+1<=_; omega⟩
   rw [hst,e]
   exact ((hb2.sb t3 Gr.noList_pEnc).sb t4 Gr.noList_pEnc).append (.cons (z32 (t4.sqT (SqT.of upd_same)) (z07 (t3.trans t4) _ _ (Gr.noList_tEnc _) h4')) .nil)
  by_cases hz:p.1=t
  ·rw [show (!decide (p.1=t))=false by simp [hz]]
   refine iteF ⟨_,rfl,_,rfl,_,_,rfl,rfl,_,rfl,?_⟩
   by_cases hm:m < p.2
   ·rw [decide_eq_true hm]
    refine iteT ⟨_,rfl,.inl ⟨rfl,_,SqL.of hD2⟩,_,rfl,_,rfl,_,rfl,_,_,rfl,rfl,by show 2<=sizeLine; decide,fun T nT=>?_⟩
    have hD3:upd H' T (.tup [.ref bd,.int (p.2-m)]) D=some (.lst us):=by rw [upd_ne (ne_of_none hD2 nT)]; exact hD2
    exact ⟨D,_,_,rfl,rfl,hD3,by omega,app (p.2-m) (by rw [Gr.woL,if_neg (by simpa using hz),if_pos hm]; rfl) T nT⟩
   ·rw [decide_eq_false hm]
    refine iteF ⟨us,_,_,rfl,s2,hD2,?_,by omega⟩
    rw [hst,show Gr.woL t m [p]=[] by rw [Gr.woL,if_neg (by simpa using hz),if_neg hm]; rfl,List.append_nil]
    exact hb2
  ·rw [show (!decide (p.1=t))=true by simp [hz]]
   refine iteT ⟨_,rfl,.inl ⟨rfl,_,SqL.of hD2⟩,_,rfl,_,rfl,by show 2<=sizeLine; decide,fun T nT=>?_⟩
   have hD3:upd H' T (.tup [.ref bd,.int p.2]) D=some (.lst us):=by rw [upd_ne (ne_of_none hD2 nT)]; exact hD2
   exact ⟨D,_,_,rfl,rfl,hD3,by omega,app p.2 (by rw [Gr.woL,if_pos hz]; rfl) T nT⟩
 ·obtain ⟨us,o4,o5,rfl,s2,hD2,hb2,ul⟩:=h2
  rw [xl,List.take_length] at hb2
  refine ⟨_,rfl,D,us,rfl,.inl ⟨SqL.of hD2,fun T nT=>?_⟩⟩
  have t3:=SB.new (ps:=[]) nT (.tup us)
  have s02:SB [] H H2:=((t1.nil (ps:=[D])).trans s2).drop nD
  exact q _ _ (s02.trans t3) (z2i (SqT.of upd_same) (hb2.sb t3 Gr.noList_pEnc))
abbrev zf7:List Str:=["grove","many","tree","count"]
theorem sc_q55:FnScope zf7 ["grove","many"] (defScope z3n):=⟨rfl,rfl,rfl,by decide +kernel,rfl,by decide +kernel,by decide +kernel⟩
theorem zhx (B:BI mg) (F:Fun K "times" "times" z3n f fd):FnOk P w K mg base CX0 (1) f fd ["grove","many"] (z7b K):=by
 refine F.ok sc_q55 (fun vs H Q E h=>?_) (fun cdv A outer s H vs Q E hr h=>?_)
 ·obtain ⟨v,g,m,rfl,_⟩:=h
  rfl
 obtain ⟨v,g,m,rfl,hv,gl,hp,m0,mb,q⟩:=h
 have hun2:=hunT hr
 refine ⟨_,pss_cons (ps_if (pt_cmpR op_eq (pv 1) pe_int (nomark _)) (pss_one (ps_ret (pe_tup pa_nil))) pss_nil)
  (pss_one (ps_ret (pe_callTy call_tuple_of rfl B.tuple boot_tuple (pa_cons (pe_lc (own:=[("tree",2),("count",3)]) (g:=(gTup K 2 (gCons (gName 2) (gCons (gName 3) gNil)))) (tt:=tYes) (te:=(tTup (tCons (tVar 2) (tCons (tOp (rI CMulW fun i j=>.int (i*j)) (tVar 3) (tVar 1)) tNil)))) rfl sc_q55.nd (pi_tup (pv 0)) (blkOk_by (N:=zf7) (sc:=defScope z3n) (by decide +kernel)) (fun _ _ _ _ _=>(pg_tup rfl (pgs_cons (pg_name (i:=2) sc_q55.nd rfl (.inl rfl)) (pgs_cons (pg_name (i:=3) sc_q55.nd rfl (.inl rfl)) pgs_nil)))) (fun _ _ _ _ _=>pts_nil) (fun _ _ _ _ _=>(pe_tup (pa_cons (pv 2) (pa_cons (pe_op op_mulW (pv 3) (pv 1)) pa_nil))))) pa_nil)))),?_⟩
 have szl:=sizeLine_eq
 obtain ⟨a,xs,rfl,hs,hb⟩:=z0g hv
 have xl:=hb.length
 refine ⟨_,rfl,rfl,_,rfl,?_⟩
 by_cases z:m=0
 ·subst z
  refine iteT ⟨by show 0<=sizeLine; decide,fun T nT=>?_⟩
  exact q _ _ (SB.new (ps:=[]) nT _) (zi2 (SqT.of upd_same))
 rw [show decide (V.int m=V.int 0)=false by simp [z]]
 refine iteF ⟨_,rfl,a,rfl,⟨xs,hs⟩,fun D nD=>?_⟩
 refine za0 (walk_tup (xs:=xs)) [] nD (by simp) (by omega) (fun i us H2=>Bears K H2 Gr.pEnc us (Gr.tmsL m (g.ps.take i))) .nil (fun H2 s2=>s2.sqT hs) (fun i us H2 H3 s3 h=>h.sb s3 Gr.noList_pEnc) (fun Pv i x Hq H2 us hi s2 y hR hu hD2 fin _=>?_) (fun us H2 s2 hD2 hR hul=>?_)
 ·obtain ⟨rfl,ey⟩:=y
  obtain ⟨p,ep,hpd⟩:=hb.get ey
  obtain ⟨p0,p1⟩:=hp p (List.mem_of_getElem? ep)
  obtain ⟨ad,bd,ux,rfl,h1,h2,h3,h4⟩:=z0h hpd
  refine ⟨ad,_,rfl,s2.sqT h1,rfl,_,_,rfl,_,_,rfl,rfl,rfl,?_⟩
  refine ⟨_,rfl,_,rfl,_,rfl,_,_,rfl,rfl,?_,by show 2<=sizeLine; decide,fun T nT=>?_⟩
  ·have e1:=zbh (x:=p.2) (a:=2000) (b:=2000) (Gr.natAbs_lt p0 p1) (Nat.le_refl _) (by decide)
   have e2:=zbh (x:=m) (a:=2000) (b:=2000) (Gr.natAbs_lt m0 mb) (Nat.le_refl _) (by decide)
   unfold CMulW
   omega
  have t3:=SB.new (ps:=[]) nT (.tup [.ref bd,.int (p.2*m)])
  refine fin _ _ t3 ?_
  have hst:Gr.tmsL m (g.ps.take (i+1))=Gr.tmsL m (g.ps.take i)++[(p.1,p.2*m)]:=by rw [List.take_add_one,ep,Gr.tmsL,Gr.tmsL,List.map_append]; rfl
  rw [hst]
  exact (hR.sb t3 Gr.noList_pEnc).append (.cons (z32 (SqT.of upd_same) (z07 (s2.trans t3) _ _ (Gr.noList_tEnc _) h4)) .nil)
 ·rw [xl,List.take_length] at hR
  refine ⟨D,us,rfl,.inl ⟨SqL.of hD2,fun T nT=>?_⟩⟩
  have t3:=SB.new (ps:=[]) nT (.tup us)
  refine q _ _ (s2.trans t3) ?_
  rw [Gr.tmsG,if_neg z]
  exact z2i (SqT.of upd_same) (hR.sb t3 Gr.noList_pEnc)
theorem sc_q47:FnScope ["grove","found","pair"] ["grove"] (defScope z5b):=⟨rfl,rfl,rfl,by decide +kernel,rfl,by decide +kernel,by decide +kernel⟩
theorem zhz {n:Nat} (G:Got P w K mg base "pairs_within" ["grove"] n (z1a K n)) (F:Fun K "pairs_within" "pairs_within" z5b f fd):FnOk P w K mg base CX0 (n+1) f fd ["grove"] (z1a K (n+1)):=by
 refine F.ok sc_q47 (fun vs H Q E h=>?_) (fun cdv A outer s H vs Q E hr h=>?_)
 ·obtain ⟨v,g,rfl,_⟩:=h
  rfl
 obtain ⟨v,g,rfl,hg,hd,hp,q⟩:=h
 refine ⟨_,pss_cons (ps_set (i:=1) sc_q47.nd rfl (.inl rfl) (pe_lst pa_nil))
  (pss_cons (ps_for PassesOwn.never rfl (pi_tup (pv 0)) (pg_name (i:=2) sc_q47.nd rfl (.inl rfl))
   (pss_cons (ps_expr (pe_bm PySem.F.plainAttrs_list PySem.F.slot_list_append PySem.F.type_list_append mt_append (pv 1) (pa_cons (pv 2) pa_nil)))
   (pss_one (ps_expr (pe_bm PySem.F.plainAttrs_list PySem.F.slot_list_extend PySem.F.type_list_extend mt_extend (pv 1) (pa_cons (z00 G hr rfl (pa_cons (pe_ix ix_tup (pe_ix ix_tup (pv 2) pe_int (fun _ _=>rfl)) pe_int (fun _ _=>rfl)) pa_nil)) pa_nil))))))
  (pss_one (ps_ret (pv 1)))),?_⟩
 obtain ⟨a,xs,rfl,hs,hb⟩:=z0g hg
 have bl:=hb.length
 have wl:=g.within_length
 refine ⟨(by show 0<=sizeLine; decide),fun D hD=>?_⟩
 refine ⟨_,rfl,a,rfl,⟨xs,(SB.new (ps:=[]) hD _).sqT hs⟩,?_⟩
 refine for_it (walk_tup (xs:=xs)) (fun i σ H2=>SB [D] H H2/\∃ us o2,σ=[some (.ref a),some (.ref D),o2]/\H2 D=some (.lst us)/\Bears K H2 Gr.pEnc us ((g.ps.take i).flatMap fun p=>p::p.1.2.within)) ⟨SB.new hD _,[],none,rfl,upd_same,.nil⟩ (fun i σ H2 hi h2=>(h2.1.drop hD).sqT hs) (fun i x σ H2 H' hi h2 y=>?_) (fun σ H2 h2=>?_)
 ·obtain ⟨s2,us,o2,rfl,hD2,hb2⟩:=h2
  obtain ⟨rfl,ex⟩:=y
  obtain ⟨p,ep,hpd⟩:=hb.get ex
  have pm:=List.mem_of_getElem? ep
  obtain ⟨ad,td,ux,rfl,hs2,hs3,hga,_⟩:=z0h hpd
  have s2':=s2.drop hD
  have ul:=hb2.length
  have hsplit:(g.ps.take (i+1)).flatMap (fun p=>p::p.1.2.within)=(g.ps.take i).flatMap (fun p=>p::p.1.2.within)++(p::p.1.2.within):=by rw [List.take_add_one,ep]; simp
  have hle:((g.ps.take i).flatMap (fun p=>p::p.1.2.within)).length+(p.1.2.within.length+1)<=200000:=by
   have h1:g.within=(g.ps.take (i+1)).flatMap (fun p=>p::p.1.2.within)++(g.ps.drop (i+1)).flatMap (fun p=>p::p.1.2.within):=by rw [Gr.within_ps,<- List.flatMap_append,List.take_append_drop]
   have h2:=congrArg List.length h1
   rw [hsplit,List.length_append,List.length_append,List.length_cons,wl] at h2
   omega
  refine ⟨_,rfl,.inl ⟨rfl,_,SqL.of hD2⟩,_,rfl,D,us,_,rfl,rfl,hD2,z38 (by omega),?_⟩
  have t3:=SB.set (ps:=[D]) hD2 (by simp) (.lst (us++[.ref ad]))
  have hD3:(upd H' D (.lst (us++[.ref ad]))) D=some (.lst (us++[.ref ad])):=upd_same
  have hb3:=Bears.append (hb2.sb t3 Gr.noList_pEnc) (.cons (z07 (s2.trans t3) _ _ (Gr.noList_pEnc _) hpd) .nil)
  have s3:=s2.trans t3
  have s3':=s3.drop hD
  generalize hH3:upd H' D (.lst (us++[.ref ad]))=H3 at t3 hD3 hb3 s3 s3'
  have pd:=g.mem_deep p pm
  have pp:=g.mem_parts p pm
  refine ⟨_,rfl,.inl ⟨rfl,_,SqL.of hD3⟩,_,rfl,ad,_,_,_,rfl,rfl,s3'.sqT hs2,atI_nat (j:=0) rfl,td,_,_,_,rfl,rfl,s3'.sqT hs3,atI_nat (j:=1) rfl,ux,p.1.2,rfl,hga.sb s3',by omega,by omega,fun D2 vs2 H4 s4 hDn hD4 hb4=>?_⟩
  have hD4':=s4.keep _ _ hD3 nmn
  have vl:=hb4.length
  refine ⟨D,D2,_,_,rfl,rfl,hD4',hD4,?_,?_⟩
  ·rw [List.length_append,List.length_singleton]
   have:1000000<=sizeLine:=by decide
   omega
  have t5:=SB.set (ps:=[D]) hD4' (by simp) (.lst (us++[.ref ad]++vs2))
  refine ⟨(s3.trans s4.nil).trans t5,_,_,rfl,upd_same,?_⟩
  rw [hsplit,show ((g.ps.take i).flatMap (fun p=>p::p.1.2.within)++(p::p.1.2.within))=(g.ps.take i).flatMap (fun p=>p::p.1.2.within)++[p]++p.1.2.within by simp]
  exact Bears.append ((hb3.sb s4 Gr.noList_pEnc).sb t5 Gr.noList_pEnc) (hb4.sb t5 Gr.noList_pEnc)
 ·obtain ⟨s2,us,o2,rfl,hD2,hb2⟩:=h2
  rw [bl,List.take_length,<- Gr.within_ps] at hb2
  exact ⟨_,rfl,q D us H2 (s2.drop hD) hD hD2 hb2⟩
abbrev zei:List Str:=["grove","tree","many"]
theorem sc_q44:FnScope zei ["grove"] (defScope z3d):=⟨rfl,rfl,rfl,by decide +kernel,rfl,by decide +kernel,by decide +kernel⟩
theorem zg7 (B:BI mg) (G_q47:Got P w K mg base "pairs_within" ["grove"] (70) (z1a K 70)) (F:Fun K "kinds_within" "kinds_within" z3d f fd):FnOk P w K mg base CX0 (71) f fd ["grove"] (z6a K):=by
 refine F.ok sc_q44 (fun vs H Q E h=>?_) (fun cdv A outer s H vs Q E hr h=>?_)
 ·obtain ⟨v,g,ns,rfl,_⟩:=h
  rfl
 obtain ⟨v,g,ns,rfl,hv,hd,hp,hk,hn,q⟩:=h
 have hun2:=hunT hr
 refine ⟨_,pss_one (ps_ret (pe_callB (z9j rfl) rfl B.sorted (by decide +kernel) (pa_cons (zi4 (own:=[("tree",1),("many",2)]) (g:=(gTup K 2 (gCons (gName 1) (gCons (gName 2) gNil)))) (tt:=tYes) (te:=(tOp (rIxT K) (tVar 1) (tC (.int 0)))) rfl sc_q44.nd (pi_list (z00 G_q47 (hr.mono (by omega)) rfl (pa_cons (pv 0) pa_nil))) (blkOk_by (N:=zei) (sc:=defScope z3d) (by decide +kernel)) (fun _ _ _ _ _=>(pg_tup rfl (pgs_cons (pg_name (i:=1) sc_q44.nd rfl (.inl rfl)) (pgs_cons (pg_name (i:=2) sc_q44.nd rfl (.inl rfl)) pgs_nil)))) (fun _ _ _ _ _=>pts_nil) (fun _ _ _ _ _=>(pe_ix ix_tup (pv 1) pe_int (fun _ _=>rfl)))) pa_nil))),?_⟩
 have scb:3001 < scanBound:=by decide +kernel
 have wl:=g.within_length
 refine ⟨_,rfl,v,g,rfl,hv,by omega,by omega,fun ll us H1 s1 nll hll hbl=>?_⟩
 have ul:=hbl.length
 refine ⟨ll,rfl,⟨_,SqL.of hll⟩,fun D nD=>?_⟩
 refine zi7 (walk_list (xs:=us)) nD (by omega) (fun i ss H2=>ss.Nodup/\∀ x,x ∈ ss ↔ x ∈ (g.within.take i).map fun p:Tr × Int=>p.1.1) ⟨List.nodup_nil,by simp⟩ (fun H2 s2=>s2.sqL nmn (SqL.of hll)) (fun _ _ _ _ _ h=>h) (fun Pv i x Hq H2 ss hi s2 y hR hl fin _=>?_) (fun ss H2 s2 hD2 hR hl=>?_)
 ·obtain ⟨rfl,ey⟩:=y
  obtain ⟨p,ep,hpd⟩:=hbl.get ey
  obtain ⟨ad,td,ux,rfl,hs2,hs3,hga,_⟩:=z0h hpd
  refine ⟨ad,_,rfl,s2.sqT hs2,rfl,_,_,rfl,_,_,rfl,rfl,rfl,?_⟩
  refine ⟨_,rfl,td,_,_,_,rfl,rfl,s2.sqT hs3,atI_nat (j:=0) rfl,fin p.1.1 _ SB.refl ⟨zae hR.1,fun x=>?_⟩⟩
  rw [zc8,hR.2,List.take_add_one,ep,List.map_append,List.mem_append]
  simp [or_comm]
 ·rw [ul,List.take_length] at hR
  have sl:ss.length<=60:=by
   have:=hR.1.length_le_of_subset (l₂:=ns) fun x hx=>by
    obtain ⟨p,hp,e⟩:=List.mem_map.mp ((hR.2 x).mp hx)
    rw [<- e]; exact hk p hp
   omega
  refine ⟨D,ss,rfl,hD2,by omega,fun ss' p pm srt np=>?_⟩
  have t3:=SB.new (ps:=[]) np (.lst (ss'.map V.str))
  exact q p ss' _ ((s1.trans s2).trans t3) ((s1.trans s2).dom _ np) upd_same (.perm pm srt hR.1 hR.2) (by rw [pm.length_eq]; omega)
theorem zhv:FnScope ["grove"] ["grove"] (defScope z5o):=⟨rfl,rfl,rfl,by decide +kernel,rfl,by decide +kernel,by decide +kernel⟩
theorem zi5 {n:Nat} (B:BI mg) (G:Got P w K mg base "pairs_within" ["grove"] n (z1a K n)) (F:Fun K "parts_of" "parts_of" z5o f fd):FnOk P w K mg base CX0 (n+1) f fd ["grove"] (z4e K n):=by
 refine F.ok zhv (fun vs H Q E h=>?_) (fun cdv A outer s H vs Q E hr h=>?_)
 ·obtain ⟨v,g,rfl,_⟩:=h
  rfl
 obtain ⟨v,g,rfl,hg,hd,hp,q⟩:=h
 refine ⟨_,pss_one (ps_ret (pe_callB call_len_seq rfl B.len PySem.boot_len (pa_cons (z00 G hr rfl (pa_cons (pv 0) pa_nil)) pa_nil))),?_⟩
 refine ⟨_,rfl,v,g,rfl,hg,hd,hp,fun D us H2 s2 _ hD hb=>?_⟩
 refine ⟨D,us,rfl,.inl (SqL.of hD),?_⟩
 rw [hb.length,g.within_length]
 exact q _ s2
abbrev z97:List Str:=["grove","tree","many"]
theorem sc_q29:FnScope z97 ["grove"] (defScope z3o):=⟨rfl,rfl,rfl,by decide +kernel,rfl,by decide +kernel,by decide +kernel⟩
theorem zgi {n:Nat} (B:BI mg) (G:Got P w K mg base "deep_of" ["grove"] n (z1x K n)) (F:Fun K "deep_of" "deep_of" z3o f fd):FnOk P w K mg base CX0 (n+1) f fd ["grove"] (z1x K (n+1)):=by
 refine F.ok sc_q29 (fun vs H Q E h=>?_) (fun cdv A outer s H vs Q E hr h=>?_)
 ·obtain ⟨v,g,rfl,_⟩:=h
  rfl
 obtain ⟨v,g,rfl,hg,hd,hp,q⟩:=h
 refine ⟨_,pss_cons (ps_if (pt_not (pt_truth (pv 0) (by intro _; rfl))) (pss_one (ps_ret pe_int)) pss_nil) (pss_one (ps_ret (pe_op op_add pe_int (pe_callB (cr_max rfl) rfl B.max boot_max (pa_cons
  (pe_lc (own:=[("tree",1),("many",2)]) (g:=zio K) (tt:=tYes) (te:=(tCall (z1x K n) [] E0 (tCons (tOp (rIxT K) (tVar 1) (tC (.int 1))) tNil))) rfl sc_q29.nd
   (pi_tup (pv 0))
   (blkOk_by (N:=z97) (sc:=defScope z3o) (by decide +kernel))
   (fun _ _ _ _ _=>pg_tup rfl (pgs_cons (pg_name (i:=1) sc_q29.nd rfl (.inl rfl)) (pgs_cons (pg_name (i:=2) sc_q29.nd rfl (.inl rfl)) pgs_nil)))
   (fun _ _ _ _ _=>pts_nil)
   (fun _ _ _ _ _=>(z00 G hr rfl (pa_cons (pe_ix ix_tup (pv 1) pe_int (fun _ _=>rfl)) pa_nil)))) pa_nil))))),?_⟩
 obtain ⟨a,xs,rfl,hs,hb⟩:=z0g hg
 have bl:=hb.length
 refine ⟨_,rfl,_,.inr (.inl ⟨xs,hs,rfl⟩),?_⟩
 cases ex:xs with
 | nil =>
  refine iteT ?_
  have e0:g.deep=0:=by
   cases g with
   | nil=>rfl
   | cons k g m r=>rw [ex] at bl; simp [Gr.ps] at bl
  have:=q H SB.refl
  rw [e0] at this
  exact this
 | cons x0 xr =>
 refine iteF ?_
 refine ⟨_,rfl,a,rfl,⟨xs,hs⟩,fun D hD=>?_⟩
 have hz:=g.len_parts
 refine lc_it (walk_tup (xs:=xs)) (fun i H2=>SB [D] H H2/\H2 D=some (.lst (((g.ps.take i).map fun p=>(p.1.2.deep:Int)).map V.int))) ⟨SB.new hD _,upd_same⟩ (fun i H2 hi h2=>(h2.1.drop hD).sqT hs) (fun i x H2 H' hi h2 y=>?_) (fun H2 h2=>?_)
 ·obtain ⟨h2,h3⟩:=h2
  obtain ⟨rfl,ex⟩:=y
  obtain ⟨p,ep,hpd⟩:=hb.get ex
  have pm:=List.mem_of_getElem? ep
  obtain ⟨ad,td,ux,rfl,hs2,hs3,hga,_⟩:=z0h hpd
  have h4:=h2.drop hD
  have m1:=g.mem_deep p pm
  have m2:=g.mem_parts p pm
  refine ⟨ad,_,rfl,h4.sqT hs2,rfl,_,_,rfl,_,_,rfl,rfl,rfl,?_⟩
  refine ⟨_,rfl,td,_,_,_,rfl,rfl,h4.sqT hs3,atI_nat (j:=1) rfl,ux,p.1.2,rfl,hga.sb h4,by omega,by omega,fun H5 h5=>?_⟩
  have h6:=h5.keep _ _ h3 nmn
  refine ⟨_,h6,?_,?_⟩
  ·rw [List.length_map,List.length_map,List.length_take]
   exact z38 (by omega)
  ·refine ⟨(h2.trans h5.nil).trans (SB.set h6 (by simp) _),?_⟩
   rw [upd_same,List.take_add_one,ep]
   simp
 ·obtain ⟨h2,h3⟩:=h2
  rw [bl,List.take_length] at h3
  refine ⟨D,_,rfl,SqL.of h3,?_,fun m hm hy=>?_⟩
  ·rw [List.length_map,<- bl,ex]; simp
  refine ⟨_,_,rfl,rfl,?_⟩
  show Q (.int (1+m)) H2
  rw [Gr.deep_max g m hm hy]
  exact q _ (h2.drop hD)
abbrev ziz:List Str:=["book","name"]
theorem zh3:FnScope ziz ["book","name"] (defScope z5t):=⟨rfl,rfl,rfl,by decide +kernel,rfl,by decide +kernel,by decide +kernel⟩
theorem zhc {C_NO_GROVES C_Book C_NoKind:Addr} (B:BI mg) (V_NO_GROVES:mg "NO_GROVES"=some (.ref C_NO_GROVES)) (W_NO_GROVES:∀ H,Dp K H (.ref C_NO_GROVES) (Ru.enc (.nil,.nil))) (G_q2:z3p P w K mg base C_Book "rules" ["self","name"] (4) (z6b K C_Book C_NoKind)) (F:Fun K "rules_from_nought" "rules_from_nought" z5t f fd):FnOk P w K mg base (L2.CX P w) (5) f fd ["book","name"] (z42 K C_Book C_NoKind):=by
 refine F.okX zh3 (fun vs H Q E h=>?_) (fun cdv A outer s H vs Q E hr h=>?_)
 ·obtain ⟨v,b,n,rfl,_⟩:=h
  rfl
 obtain ⟨v,b,n,rfl,hb,hl,hr4,qk,qE⟩:=h
 have hun2:=hunT hr
 refine ⟨_,pss_one (ps_ret (pe_op op_cat (pe_lst (pa_cons (pe_glob (v:=.ref C_NO_GROVES) rfl V_NO_GROVES rfl) pa_nil)) (zc0 G_q2 (hr.mono (by omega)) (takes_of rfl rfl rfl rfl) (pv 0) (pa_cons (pv 1) pa_nil)))),?_⟩
 have szl:=sizeLine_eq
 obtain ⟨va,vdx,vd1,vd2,rfl,hva⟩:=hb.at
 refine ⟨by show 1<=sizeLine; decide,fun L hL=>?_⟩
 have t1:=SB.new (ps:=[]) hL (.lst [.ref C_NO_GROVES])
 have hL1:upd H L (.lst [.ref C_NO_GROVES]) L=some (.lst [.ref C_NO_GROVES]):=upd_same
 generalize upd H L (.lst [.ref C_NO_GROVES])=H1 at t1 hL1
 refine ⟨_,rfl,va,vdx,_,rfl,t1.keep _ _ hva nmn,rfl,_,rfl,_,b,n,rfl,hb.sb0 t1,hl,hr4,fun k eg ll us H2 s2 nll hll hbl=>?_,fun z d H' s' nd hd=>qE z d H' (t1.trans s') (t1.dom d nd) hd⟩
 have k4:=hr4 k (Bk.get_some eg).1
 have ul:=hbl.length
 refine ⟨L,ll,_,_,rfl,rfl,s2.keep _ _ hL1 nmn,hll,by show 1+_<=sizeLine; omega,fun M hM=>?_⟩
 have t3:=SB.new (ps:=[]) hM (.lst ([.ref C_NO_GROVES]++us))
 have s3:=t1.trans s2
 exact qk k eg M _ _ (s3.trans t3) (s3.dom _ hM) upd_same (.cons (W_NO_GROVES _) (hbl.sb t3 Ru.noList_enc))
abbrev zil:List Str:=["book","name"]
theorem zgj:FnScope zil ["book","name"] (defScope z54):=⟨rfl,rfl,rfl,by decide +kernel,rfl,by decide +kernel,by decide +kernel⟩
theorem zhk {C_NoKind C_Book:Addr} (B:BI mg) (O_NoKind:OwnI P w K mg base "NoKind" C_NoKind 1) (G_q1:GotM P w K mg base C_Book "names" ["self"] (1) (z3c K C_Book)) (F:Fun K "check_kind" "check_kind" z54 f fd):FnOk P w K mg base (L2.CX P w) (3) f fd ["book","name"] (z2j K C_Book C_NoKind):=by
 refine F.okX zgj (fun vs H Q E h=>?_) (fun cdv A outer s H vs Q E hr h=>?_)
 ·obtain ⟨v,b,n,rfl,_⟩:=h
  rfl
 obtain ⟨v,b,n,rfl,hb,hl,qk,qE⟩:=h
 have hun2:=hunT hr
 refine ⟨_,pss_one (ps_if (pt_cmpR op_notIn_seq (pv 1) (z8t G_q1 (hr.mono (by omega)) (pv 0)) (by rfl)) (pss_one (ps_raise rfl (takes_of rfl rfl rfl rfl) (zc2 O_NoKind (hr.mono (by omega)) rfl (pv 1)))) pss_nil),?_⟩
 obtain ⟨a,dx,d1,d2,rfl,h1⟩:=hb.at
 refine ⟨_,rfl,_,rfl,a,dx,_,rfl,h1,rfl,?_⟩
 refine ⟨_,b,rfl,hb,hl,fun l H1 s1 hn hl1=>?_⟩
 refine ⟨l,_,rfl,.inl (SqL.of hl1),rfl,z7n _,_,rfl,?_⟩
 rw [z85,Bk.get_isSome]
 cases e:b.get n with
 | some k=>exact qk k e H1 s1
 | none=>exact ⟨_,rfl,fun d hd=>qE e d _ (s1.trans (SB.new hd _)) (s1.dom d hd) upd_same⟩
abbrev zij:List Str:=["book","grove","kind"]
theorem sc_q23:FnScope zij ["book","grove"] (defScope z5u):=⟨rfl,rfl,rfl,by decide +kernel,rfl,by decide +kernel,by decide +kernel⟩
theorem zhf {C_Book C_NoKind:Addr} (B:BI mg) (G_q44:Got P w K mg base "kinds_within" ["grove"] (71) (z6a K)) (G_q22:GotX P w K mg base "check_kind" ["book","name"] (3) (z2j K C_Book C_NoKind)) (F:Fun K "check_kinds" "check_kinds" z5u f fd):FnOk P w K mg base (L2.CX P w) (72) f fd ["book","grove"] (z1p K C_Book):=by
 refine F.okX sc_q23 (fun vs H Q E h=>?_) (fun cdv A outer s H vs Q E hr h=>?_)
 ·obtain ⟨v,w,b,g,rfl,_⟩:=h
  rfl
 obtain ⟨v,w,b,g,rfl,hv,hg,hl,hd,hp,hk,q⟩:=h
 have hun2:=hunT hr
 refine ⟨_,pss_one (ps_for (passes_of rfl) rfl (pi_list (z00 G_q44 (hr.mono (by omega)) rfl (pa_cons (pv 1) pa_nil))) (pg_name (i:=2) sc_q23.nd rfl (.inl rfl))
   (pss_one (ps_expr (z0n G_q22 (hr.mono (by omega)) rfl (takes_of rfl rfl rfl rfl) (pa_cons (pv 0) (pa_cons (pv 2) pa_nil)))))),?_⟩
 refine ⟨_,rfl,w,g,b.names,rfl,hg,hd,hp,hk,by rw [List.length_map]; exact hl,fun l ss H1 s1 nl hls so sl=>?_⟩
 refine ⟨l,rfl,⟨_,SqL.of hls⟩,?_⟩
 refine for_it (walk_list (xs:=ss.map V.str)) (fun i σ H2=>SB [] H1 H2/\∃ o2,σ=[some v,some w,o2]) ⟨SB.refl,none,rfl⟩ (fun i σ H2 hi h2=>h2.1.sqL nmn (SqL.of hls)) (fun i x σ Hq H2 hi h2 y=>?_) (fun σ H2 h2=>?_)
 ·obtain ⟨s2,o2,rfl⟩:=h2
  obtain ⟨rfl,ey⟩:=y
  rw [List.getElem?_map] at ey
  obtain ⟨k,ek,rfl⟩:=Option.map_eq_some_iff.mp ey
  obtain ⟨p,hp2,e⟩:=List.mem_map.mp ((so.mem k).mp (List.mem_of_getElem? ek))
  obtain ⟨kd,eg⟩:=Bk.get_of (e ▸ hk p hp2)
  refine ⟨_,rfl,_,rfl,v,b,k,rfl,hv.sb0 (s1.trans s2),by omega,fun _ _ H3 s3=>⟨s2.trans s3,_,rfl⟩,fun z=>by rw [eg] at z; cases z⟩
 ·obtain ⟨s2,o2,rfl⟩:=h2
  exact q _ (s1.trans s2)
abbrev zag:List Str:=["things","thing","names","rule"]
theorem sc_q18:FnScope zag ["things"] (defScope z2s):=⟨rfl,rfl,rfl,by decide +kernel,rfl,by decide +kernel,by decide +kernel⟩
theorem zhm (B:BI mg) (L_MOST_KINDS:∃ t,mg "MOST_KINDS"=some (.int (8) t)) (G_q35:Got P w K mg base "is_kind" ["thing"] (86) (z6n K)) (G_q40:Got P w K mg base "is_rule_of" ["rule","names"] (71) (z27 K)) (F:Fun K "are_kinds" "are_kinds" z2s f fd):FnOk P w K mg base CX0 (87) f fd ["things"] (z3t K):=by
 refine F.ok sc_q18 (fun vs H Q E h=>?_) (fun cdv A outer s H vs Q E hr h=>?_)
 ·obtain ⟨l,xs,ts,rfl,_⟩:=h
  rfl
 obtain ⟨l,xs,ts,rfl,hs,ha,hf,hl,q⟩:=h
 obtain ⟨tk_MOST_KINDS,h_MOST_KINDS⟩:=L_MOST_KINDS
 have hun2:=hunT hr
 refine ⟨_,pss_cons (ps_if (pt_not (pt_chain op_le op_le pe_int (pe_callB call_len_seq rfl B.len PySem.boot_len (pa_cons (pv 0) pa_nil)) (pe_glob (v:=.int (8)) rfl h_MOST_KINDS ⟨_,rfl⟩))) (pss_one (ps_ret pe_bl)) pss_nil)
  (pss_cons (ps_for PassesOwn.never rfl (pi_list (pv 0)) (pg_name (i:=1) sc_q18.nd rfl (.inl rfl))
   (pss_one (ps_if (pt_not (pt_val (z00 G_q35 (hr.mono (by omega)) rfl (pa_cons (pv 1) pa_nil)))) (pss_one (ps_ret pe_bl)) pss_nil)))
  (pss_cons (ps_set (i:=2) sc_q18.nd rfl (.inr rfl) (pe_lc (own:=[("thing",1)]) (g:=(gName 1)) (tt:=tYes) (te:=(tOp (rIxT K) (tVar 1) (tC (.int 0)))) rfl sc_q18.nd (pi_list (pv 0)) (blkOk_by (N:=zag) (sc:=defScope z2s) (by decide +kernel)) (fun _ _ _ _ _=>(pg_name (i:=1) sc_q18.nd rfl (.inl rfl))) (fun _ _ _ _ _=>pts_nil) (fun _ _ _ _ _=>(pe_ix ix_tup (pv 1) pe_int (fun _ _=>rfl)))))
  (pss_cons (ps_if (pt_cmpR op_ne (zar rfl B rfl rfl (pv 2)) (pe_callB call_len_seq rfl B.len PySem.boot_len (pa_cons (pv 2) pa_nil)) (nomark _)) (pss_one (ps_ret pe_bl)) pss_nil)
  (pss_one (ps_ret (pe_callB (cr_all rfl) rfl B.all boot_all (pa_cons (pe_lc2 (own:=[("thing",1),("rule",3)]) (vs1:=[3]) (wi1:=(iList K (tOp (rIxT K) (tVar 1) (tC (.int 2))))) (g:=(gName 1)) (g1:=(gName 3)) (tt:=tYes) (tt1:=tYes) (te:=(tCall (z27 K) [] E0 (tCons (tVar 3) (tCons (tVar 2) tNil)))) rfl sc_q18.nd (pi_list (pv 0)) (blkOk_by (N:=zag) (sc:=defScope z2s) (by decide +kernel)) (by simp) (fun _ _ _ _ _=>(pg_name (i:=1) sc_q18.nd rfl (.inl rfl))) (fun _ _ _ _ _=>pts_nil) (fun _ _ _ _ _=>(pi_list (pe_ix ix_tup (pv 1) pe_int (fun _ _=>rfl)))) (fun _ _ _ _ _=>(pg_name (i:=3) sc_q18.nd rfl (.inl rfl))) (fun _ _ _ _ _=>pts_nil) (fun _ _ _ _ _=>(z00 G_q40 (hr.mono (by omega)) rfl (pa_cons (pv 3) (pa_cons (pv 2) pa_nil))))) pa_nil))))))),?_⟩
 have no:¬ KTBk ts->∀ H',SB [] H H'->Q (.bl false) H':=fun e H' s'=>q false H' s' ⟨(fun z=>nomatch z),fun z=>absurd z e⟩
 have xlen:=ha.length
 have szl:=sizeLine_eq
 refine ⟨_,rfl,l,xs,rfl,.inl hs,_,_,rfl,rfl,_,rfl,?_⟩
 refine ite2 (fun c=>?_) (fun c=>?_)
 ·have c1:=of_decide_eq_true c
  refine ⟨_,_,rfl,rfl,_,rfl,?_⟩
  cases c8:decide (((xs.length:Nat):Int)<=8) with
  | false =>
   have c2:=of_decide_eq_false c8
   refine iteT (no ?_ _ SB.refl)
   rintro ⟨b,e,ok⟩
   have:=ok.len
   rw [e,List.length_map] at xlen
   omega
  | true =>
  refine iteF ?_
  have c2:=of_decide_eq_true c8
  refine ⟨_,rfl,l,rfl,⟨xs,hs⟩,?_⟩
  refine for_list (K:=K) (a:=l) (xs:=xs) (fun i σ H2=>SB [] H H2/\(∃ o,σ=[some (.ref l),o,none,none])/\∀ t ∈ ts.take i,KTKd t) ⟨SB.refl,⟨none,rfl⟩,by simp⟩ (fun i σ H2 hi h2=>h2.1.sqL nmn hs) (fun i x σ H2 hx h2=>?_) (fun σ H2 h2=>?_)
  ·obtain ⟨h2,⟨o,rfl⟩,h3⟩:=h2
   obtain ⟨t,et,ht⟩:=ha.get hx
   have mt:=List.mem_of_getElem? et
   refine ⟨_,rfl,x,t,rfl,zb7 h2 ht,hf t mt,fun b H3 s3 hb=>?_⟩
   refine ⟨_,rfl,?_⟩
   cases b with
   | false =>
    refine iteT (no ?_ _ (h2.trans s3))
    rintro ⟨bk,e,ok⟩
    rw [e] at mt
    obtain ⟨k,hk,rfl⟩:=List.mem_map.mp mt
    obtain ⟨o1,o2,o3⟩:=ok.kd k hk
    exact nomatch hb.mpr ⟨k,rfl,o1,o2,fun r hr=>(o3 r hr).1⟩
   | true =>
    refine iteF ⟨h2.trans s3,⟨_,rfl⟩,fun t' ht'=>?_⟩
    rw [List.take_add_one,et,Option.toList_some] at ht'
    rcases List.mem_append.mp ht' with h | h
    ·exact h3 t' h
    ·rw [List.mem_singleton.mp h]; exact hb.mp rfl
  ·obtain ⟨h2,⟨o,rfl⟩,h3⟩:=h2
   rw [xlen,List.take_length] at h3
   obtain ⟨bk,et,hk⟩:=zbe h3
   subst et
   rw [List.length_map] at xlen
   have ha2:=(ha.sb h2).kd
   have hs2:=h2.sqL nmn hs
   refine ⟨_,rfl,l,rfl,⟨xs,hs2⟩,fun D hD=>?_⟩
   refine z34 (walk_list (xs:=xs)) hD (by omega) (fun i us _=>us=((Bk.names bk).take i).map V.str) rfl (fun H6 s6=>s6.sqL nmn hs2) (fun _ _ _ _ _ h=>h) (fun Pv i x H6 H' us hi s6 y hR hl6 fin _=>?_) (fun us H6 s6 hD6 hR _=>?_)
   ·obtain ⟨rfl,ex⟩:=y
    obtain ⟨k,ek,t,r,zs,rfl,g1,g2,g3,_⟩:=ha2.get ex
    refine ⟨rfl,_,rfl,t,_,_,_,rfl,rfl,s6.sqT g1,atI_nat (j:=0) rfl,fin _ _ SB.refl ?_⟩
    rw [hR,List.take_add_one,List.getElem?_map,ek,Option.map_some,Option.toList_some,List.map_append]; rfl
   ·rw [xlen,show (Bk.names bk).take bk.length=Bk.names bk by rw [List.take_of_length_le (by simp)]] at hR
    subst hR
    have s06:=h2.trans s6
    refine ⟨_,rfl,D,Bk.names bk,rfl,SqL.of hD6,by rw [List.length_map]; omega,?_⟩
    refine ⟨_,rfl,D,_,rfl,.inl (SqL.of hD6),rfl,_,rfl,?_⟩
    have hnd:=z81 (Bk.names bk)
    rw [show (List.map V.str (Bk.names bk)).length=(Bk.names bk).length from List.length_map ..]
    by_cases nd:(Bk.names bk).Nodup
    ·rw [hnd.mpr nd,show (!decide (V.int ((Bk.names bk).length:Nat)=V.int ((Bk.names bk).length:Nat)))=false by simp]
     refine iteF ?_
     have ha6:=ha2.sb s6 NoLst.nil
     have hs6:=s6.sqL nmn hs2
     refine ⟨_,rfl,l,rfl,⟨xs,hs6⟩,fun E1 hE1=>?_⟩
     have good:∀ r:Ru,(∃ k ∈ bk,r ∈ k.rs)->RuOk r:=fun r ⟨k,h1,h2⟩=>(hk k h1).2.2 r h2
     refine lcG (walk_list (xs:=xs)) (fun i H2=>SB [E1] H6 H2/\∃ bs:List Bool,H2 E1=some (.lst (bs.map V.bl))/\bs=((bk.take i).flatMap fun k=>k.rs.map fun r=>decide (∀ p ∈ Ru.within r,p.1.1 ∈ Bk.names bk))) ⟨SB.new hE1 _,[],upd_same,rfl⟩ (fun i H2 hi h2=>(h2.1.drop hE1).sqL nmn hs6) (fun i x H2 H' hi h2 y=>?_) (fun H2 h2=>?_)
     ·obtain ⟨s7,bs,hE7,hbs⟩:=h2
      obtain ⟨rfl,ex⟩:=y
      obtain ⟨k,ek,t,r,zs,rfl,g1,g2,g3,_⟩:=ha6.get ex
      have mk:=List.mem_of_getElem? ek
      have zl:=g3.length
      have r4:=(hk k mk).2.1
      have s7':=s7.drop hE1
      refine ⟨rfl,?_⟩
      refine ⟨_,rfl,t,_,_,_,rfl,rfl,s7'.sqT g1,atI_nat (j:=2) rfl,r,rfl,⟨zs,SqL.of (s7'.keep _ _ g2 nmn)⟩,?_⟩
      have hsplit:((bk.take (i+1)).flatMap fun k=>k.rs.map fun r=>decide (∀ p ∈ Ru.within r,p.1.1 ∈ Bk.names bk))=((bk.take i).flatMap fun k=>k.rs.map fun r=>decide (∀ p ∈ Ru.within r,p.1.1 ∈ Bk.names bk))++k.rs.map fun r=>decide (∀ p ∈ Ru.within r,p.1.1 ∈ Bk.names bk):=by rw [List.take_add_one,ek]; simp
      have hlen:bs.length<=4*i:=by
       rw [hbs]
       clear hbs hE7 s7 s7' hsplit ex ek
       induction i with
       | zero=>simp
       | succ i ih =>
        rw [List.take_add_one,List.flatMap_append,List.length_append]
        have:=ih (by omega)
        cases e:bk[i]? with
        | none=>simp only [Option.toList_none,List.flatMap_nil,List.length_nil]; omega
        | some k2 =>
         have:=(hk k2 (List.mem_of_getElem? e)).2.1
         simp only [Option.toList_some,List.flatMap_cons,List.flatMap_nil,List.append_nil,List.length_map]; omega
      refine lcG (walk_list (xs:=zs)) (fun j H3=>SB [E1] H6 H3/\∃ bs2:List Bool,H3 E1=some (.lst (bs2.map V.bl))/\bs2=bs++((k.rs.take j).map fun r=>decide (∀ p ∈ Ru.within r,p.1.1 ∈ Bk.names bk))) ⟨s7,bs,hE7,by simp⟩ (fun j H3 hj h3=>(h3.1.drop hE1).sqL nmn (SqL.of g2)) (fun j x H3 H4 hj h3 y=>?_) (fun H3 h3=>?_)
      ·obtain ⟨s8,bs2,hE8,hbs2⟩:=h3
       obtain ⟨rfl,ex2⟩:=y
       obtain ⟨ru,er,hru⟩:=g3.get ex2
       have s8':=s8.drop hE1
       have mr:=List.mem_of_getElem? er
       refine ⟨rfl,?_⟩
       refine ⟨_,rfl,_,rfl,_,D,ru,Bk.names bk,rfl,z07 s8' _ _ (Ru.noList_enc _) hru,(hk k mk).2.2 ru mr,SqL.of (s8'.keep _ _ hD6 nmn),by rw [List.length_map]; omega,fun H9 s9=>?_⟩
       have hE9:=s9.keep _ _ hE8 nmn
       refine ⟨_,hE9,?_,(s8.trans s9.nil).trans (SB.set hE9 (by simp) _),bs2++[decide (∀ p ∈ Ru.within ru,p.1.1 ∈ Bk.names bk)],(by rw [upd_same,List.map_append]; rfl),?_⟩
       ·rw [List.length_map,hbs2,List.length_append,List.length_map,List.length_take]
        omega
       ·rw [hbs2,List.take_add_one,er,Option.toList_some,List.map_append,<- List.append_assoc]
        exact rfl
      ·obtain ⟨s8,bs2,hE8,hbs2⟩:=h3
       refine ⟨s8,bs2,hE8,?_⟩
       rw [hsplit,hbs2,hbs,zl,List.take_length]
     ·obtain ⟨s7,bs,hE7,hbs⟩:=h2
      rw [xlen,List.take_length] at hbs
      refine ⟨E1,bs,rfl,SqL.of hE7,q _ _ (s06.trans (s7.drop hE1)) ?_⟩
      rw [hbs]
      simp only [List.all_flatMap,List.all_map,List.all_eq_true,Function.comp,id_eq,decide_eq_true_eq]
      constructor
      ·intro h
       exact ⟨bk,rfl,by omega,by omega,nd,fun k mk=>⟨(hk k mk).1,(hk k mk).2.1,fun r mr=>⟨(hk k mk).2.2 r mr,h k mk r mr⟩⟩⟩
      ·rintro ⟨b2,e2,ok⟩ k mk r mr
       have e3:=z75 e2
       subst e3
       exact ((ok.kd k mk).2.2 r mr).2
    ·rw [show (!decide (V.int ((met (Bk.names bk) (Bk.names bk).length).length:Nat)=V.int ((Bk.names bk).length:Nat)))=true by
      rw [decide_eq_false (fun z=>by injection z with z; exact nd (hnd.mp (by omega)))]; rfl]
     refine iteT (no ?_ _ s06)
     rintro ⟨b2,e2,ok⟩
     have e3:=z75 e2
     subst e3
     exact nd ok.nd
 ·have c1:=of_decide_eq_false (Bool.eq_false_iff.mpr c)
  refine ⟨_,rfl,?_⟩
  refine iteT (no ?_ _ SB.refl)
  rintro ⟨b,e,ok⟩
  have:=ok.pos
  rw [e,List.length_map] at xlen
  omega
abbrev ze9:List Str:=["thing","name","spreading","rows","row"]
theorem sc_q35:FnScope ze9 ["thing"] (defScope z3m):=⟨rfl,rfl,rfl,by decide +kernel,rfl,by decide +kernel,by decide +kernel⟩
theorem zgs (B:BI mg) (L_MOST_RULES:∃ t,mg "MOST_RULES"=some (.int (4) t)) (G_q37:Got P w K mg base "is_name" ["thing"] (2) (z71 K)) (G_q39:Got P w K mg base "is_rule" ["thing"] (85) (z3f K)) (F:Fun K "is_kind" "is_kind" z3m f fd):FnOk P w K mg base CX0 (86) f fd ["thing"] (z6n K):=by
 refine F.ok sc_q35 (fun vs H Q E h=>?_) (fun cdv A outer s H vs Q E hr h=>?_)
 ·obtain ⟨v,t,rfl,_⟩:=h
  rfl
 obtain ⟨v,t,rfl,th,hf,q⟩:=h
 obtain ⟨tk_MOST_RULES,h_MOST_RULES⟩:=L_MOST_RULES
 have hun2:=hunT hr
 refine ⟨_,pss_cons (ps_if (PW.pt (pw_or (pt_not (pt_val (z0z B (pv 0) B.tuple boot_tuple))) (pw_or1 (pt_cmpR op_ne (pe_callB call_len_seq rfl B.len PySem.boot_len (pa_cons (pv 0) pa_nil)) pe_int (nomark _))))) (pss_one (ps_ret pe_bl)) pss_nil)
  (pss_cons (ps_asg (pv 0) (pg_tup rfl (pgs_cons (pg_name (i:=1) sc_q35.nd rfl (.inl rfl)) (pgs_cons (pg_name (i:=2) sc_q35.nd rfl (.inl rfl)) (pgs_cons (pg_name (i:=3) sc_q35.nd rfl (.inl rfl)) pgs_nil)))))
  (pss_cons (ps_if (PW.pt (pw_or (pt_not (pt_val (z00 G_q37 (hr.mono (by omega)) rfl (pa_cons (pv 1) pa_nil)))) (pw_or1 (pt_not (pt_val (z0z B (pv 2) B.bool boot_bool)))))) (pss_one (ps_ret pe_bl)) pss_nil)
  (pss_one (ps_ret (pe_and (z0z B (pv 3) B.list boot_list) (pe_and (pe_cmpR op_le (pe_callB call_len_seq rfl B.len PySem.boot_len (pa_cons (pv 3) pa_nil)) (pe_glob (v:=.int (4)) rfl h_MOST_RULES ⟨_,rfl⟩) (nomark _)) (pe_one (pe_callB (cr_all rfl) rfl B.all boot_all (pa_cons (pe_lc (own:=[("row",4)]) (g:=(gName 4)) (tt:=tYes) (te:=(tCall (z3f K) [] E0 (tCons (tVar 4) tNil))) rfl sc_q35.nd (pi_list (pv 3)) (blkOk_by (N:=ze9) (sc:=defScope z3m) (by decide +kernel)) (fun _ _ _ _ _=>(pg_name (i:=4) sc_q35.nd rfl (.inl rfl))) (fun _ _ _ _ _=>pts_nil) (fun _ _ _ _ _=>(z00 G_q39 (hr.mono (by omega)) rfl (pa_cons (pv 4) pa_nil)))) pa_nil))))))))),?_⟩
 have no:¬ KTKd t->∀ H',SB [] H H'->Q (.bl false) H':=fun e H' s'=>q false H' s' ⟨(fun z=>nomatch z),fun z=>absurd z e⟩
 cases t with
 | other =>
  have n0:¬ KTKd .other:=by rintro ⟨k,e,_⟩; cases e
  obtain ⟨d,tg,hd⟩:=th
  obtain ⟨n1,b,ty,kb,y1,y2⟩:=tg.ty
  refine ⟨_,rfl,_,_,n1,b,rfl,ty,kb,b,rfl,?_⟩
  cases b with
  | false=>exact iteT (iteT (no n0 _ SB.refl))
  | true =>
  refine iteF ?_
  obtain ⟨a,xs,ds,rfl,rfl,hs,ha⟩:=y1 rfl
  refine ⟨_,rfl,a,xs,rfl,.inr hs,rfl,_,rfl,?_⟩
  have hl:=TgAll.length ha
  have h3:=hd ds rfl
  rw [show (!decide (V.int (xs.length:Nat)=V.int 3))=true by rw [decide_eq_false (fun z=>by injection z with z; omega)]; rfl]
  exact iteT (no n0 _ SB.refl)
 | three d w rs =>
  obtain ⟨a,x,y,z,rfl,hs,tx,ty,tz⟩:=th
  refine ⟨_,rfl,_,_,"tuple",true,rfl,z2y hs,by decide +kernel,_,rfl,?_⟩
  refine iteF ?_
  refine ⟨_,rfl,a,_,rfl,.inr hs,rfl,_,rfl,?_⟩
  rw [show (!decide (V.int (([x,y,z]:List V).length:Nat)=V.int 3))=false from rfl]
  refine iteF ?_
  refine ⟨_,rfl,a,_,rfl,hs,rfl,_,_,rfl,_,_,rfl,_,_,rfl,rfl,?_⟩
  refine ⟨_,rfl,x,d,rfl,tx,fun H1 s1=>?_⟩
  refine ⟨_,rfl,?_⟩
  cases g1:z1d d with
  | false =>
   refine iteT (iteT (no ?_ _ s1))
   rintro ⟨k,e,hk,_⟩
   injection e with e _ _
   rw [e,z93 hk] at g1
   cases g1
  | true =>
  refine iteF ?_
  obtain ⟨nm,rfl,hnm⟩:=z4h g1
  cases w with
  | none =>
   obtain ⟨n,ty,kb⟩:=ty
   refine ⟨_,rfl,_,_,n,false,rfl,z1h s1 (fun _ _=>nmn) ty,kb,_,rfl,?_⟩
   refine iteT (no ?_ _ s1)
   rintro ⟨k,e,_⟩
   injection e with _ e _
   cases e
  | some bb =>
  have ty:y=.bl bb:=ty
  subst ty
  refine ⟨_,rfl,_,_,"bool",true,rfl,.base (.bl bb),by decide +kernel,_,rfl,?_⟩
  refine iteF ?_
  cases rs with
  | none =>
   obtain ⟨n,ty,kb⟩:=tz
   refine ⟨_,rfl,_,_,n,false,rfl,z1h s1 (fun _ _=>nmn) ty,kb,_,rfl,?_⟩
   refine iteF (no ?_ _ s1)
   rintro ⟨k,e,_⟩
   injection e with _ _ e
   cases e
  | some ds =>
  obtain ⟨l,zs,rfl,hl,ha⟩:=tz
  obtain ⟨hd1,hd2⟩:=hf ds rfl
  refine ⟨_,rfl,_,_,"list",true,rfl,zhu (s1.sqL nmn (SqL.of hl)),by decide +kernel,_,rfl,?_⟩
  refine iteT ?_
  have hlen:=TgAll.length ha
  refine ⟨_,rfl,l,_,rfl,.inl (s1.sqL nmn (SqL.of hl)),_,_,rfl,rfl,_,rfl,?_⟩
  refine ite2 (fun c=>?_) (fun c=>?_)
  ·have c1:=of_decide_eq_true c
   rw [hlen] at c1
   have szl:=sizeLine_eq
   refine ⟨_,rfl,l,rfl,⟨_,s1.sqL nmn (SqL.of hl)⟩,fun D hD=>?_⟩
   refine z34 (walk_list (xs:=zs)) hD (by omega) (fun i us _=>∃ bs:List Bool,us=bs.map V.bl/\bs.length=i/\∀ j b,bs[j]?=some b->∀ x,ds[j]?=some x->(b=true ↔ RuD x)) ⟨[],rfl,rfl,fun j b h=>by rw [List.getElem?_nil] at h; cases h⟩ (fun H6 s6=>s6.sqL nmn (s1.sqL nmn (SqL.of hl))) (fun _ _ _ _ _ h=>h) (fun Pv i x H6 H' us hi s6 y hR hl6 fin _=>?_) (fun us H6 s6 hD6 hR _=>?_)
   ·obtain ⟨rfl,ex⟩:=y
    obtain ⟨p,ep,hp⟩:=TgAll.get ha ex
    obtain ⟨bs,rfl,hbl,hbs⟩:=hR
    refine ⟨rfl,_,rfl,x,p,rfl,z25 (s1.trans s6) hp,hd2 _ (List.mem_of_getElem? ep),fun b H7 s7 hb=>fin _ _ s7 ⟨bs++[b],by rw [List.map_append]; rfl,by rw [List.length_append,hbl]; rfl,fun j b' hj y hy=>?_⟩⟩
    by_cases hji:j < bs.length
    ·rw [List.getElem?_append_left hji] at hj
     exact hbs j b' hj y hy
    ·have hj':j=bs.length:=by
      have:=(List.getElem?_eq_some_iff.mp hj).1
      rw [List.length_append,List.length_singleton] at this
      omega
     subst hj'
     rw [List.getElem?_append_right (Nat.le_refl _),Nat.sub_self] at hj
     cases hj
     rw [hbl,ep] at hy
     cases hy
     exact hb
   ·obtain ⟨bs,rfl,hbl,hbs⟩:=hR
    refine ⟨D,bs,rfl,SqL.of hD6,q _ _ (s1.trans s6) ?_⟩
    have h1:(bs.all id=true) ↔ ∀ x ∈ ds,RuD x:=by
     rw [List.all_eq_true]
     constructor
     ·intro h x hx
      obtain ⟨j,hj,e⟩:=List.getElem_of_mem hx
      have hjb:j < bs.length:=by omega
      exact (hbs j bs[j] (List.getElem?_eq_getElem hjb) x (by rw [List.getElem?_eq_getElem hj,e])).mp (h _ (List.getElem_mem hjb))
     ·intro h b hb
      obtain ⟨j,hj,e⟩:=List.getElem_of_mem hb
      have hjb:j < ds.length:=by omega
      exact (hbs j b (by rw [List.getElem?_eq_getElem hj,e]) ds[j] (List.getElem?_eq_getElem hjb)).mpr (h _ (List.getElem_mem hjb))
    rw [h1]
    constructor
    ·intro h
     obtain ⟨rr,e1,e2⟩:=z9t h
     exact ⟨⟨nm,bb,rr⟩,by rw [Kd.kt,e1],hnm,by rw [e1,List.length_map] at c1; show rr.length<=4; omega,e2⟩
    ·rintro ⟨k,e,_,_,hk⟩ x hx
     injection e with _ _ e
     injection e with e
     rw [e] at hx
     obtain ⟨r,hr,rfl⟩:=List.mem_map.mp hx
     exact ⟨r,rfl,hk r hr⟩
  ·have c1:=of_decide_eq_false (Bool.eq_false_iff.mpr c)
   rw [hlen] at c1
   refine no ?_ _ s1
   rintro ⟨k,e,_,h4,_⟩
   injection e with _ _ e
   injection e with e
   rw [e,List.length_map] at c1
   omega
abbrev zdo:List Str:=["thing","once","each","pairs","tree","many"]
theorem sc_q39:FnScope zdo ["thing"] (defScope z3s):=⟨rfl,rfl,rfl,by decide +kernel,rfl,by decide +kernel,by decide +kernel⟩
theorem zh8 (B:BI mg) (L_MOST_RULE_PARTS:∃ t,mg "MOST_RULE_PARTS"=some (.int (4) t)) (L_MOST_MANY:∃ t,mg "MOST_MANY"=some (.int (1000000000) t)) (G_q34:Got P w K mg base "is_grove" ["thing"] (84) (z1m K 81)) (G_q47:Got P w K mg base "pairs_within" ["grove"] (70) (z1a K 70)) (F:Fun K "is_rule" "is_rule" z3s f fd):FnOk P w K mg base CX0 (85) f fd ["thing"] (z3f K):=by
 refine F.ok sc_q39 (fun vs H Q E h=>?_) (fun cdv A outer s H vs Q E hr h=>?_)
 ·obtain ⟨v,d,rfl,_⟩:=h
  rfl
 obtain ⟨v,d,rfl,th,hf,q⟩:=h
 obtain ⟨tk_MOST_RULE_PARTS,h_MOST_RULE_PARTS⟩:=L_MOST_RULE_PARTS
 obtain ⟨tk_MOST_MANY,h_MOST_MANY⟩:=L_MOST_MANY
 have hun2:=hunT hr
 refine ⟨_,pss_cons (ps_if (PW.pt (pw_or (pt_not (pt_val (z0z B (pv 0) B.tuple boot_tuple))) (pw_or1 (pt_cmpR op_ne (pe_callB call_len_seq rfl B.len PySem.boot_len (pa_cons (pv 0) pa_nil)) pe_int (nomark _))))) (pss_one (ps_ret pe_bl)) pss_nil)
  (pss_cons (ps_asg (pv 0) (pg_tup rfl (pgs_cons (pg_name (i:=1) sc_q39.nd rfl (.inl rfl)) (pgs_cons (pg_name (i:=2) sc_q39.nd rfl (.inl rfl)) pgs_nil))))
  (pss_cons (ps_if (PW.pt (pw_or (pt_not (pt_val (z00 G_q34 (hr.mono (by omega)) rfl (pa_cons (pv 1) pa_nil)))) (pw_or1 (pt_not (pt_val (z00 G_q34 (hr.mono (by omega)) rfl (pa_cons (pv 2) pa_nil))))))) (pss_one (ps_ret pe_bl)) pss_nil)
  (pss_cons (ps_set (i:=3) sc_q39.nd rfl (.inl rfl) (pe_op op_cat (z00 G_q47 (hr.mono (by omega)) rfl (pa_cons (pv 1) pa_nil)) (z00 G_q47 (hr.mono (by omega)) rfl (pa_cons (pv 2) pa_nil))))
  (pss_one (ps_ret (pe_and (pe_cmpR op_le (pe_callB call_len_seq rfl B.len PySem.boot_len (pa_cons (pv 3) pa_nil)) (pe_glob (v:=.int (4)) rfl h_MOST_RULE_PARTS ⟨_,rfl⟩) (nomark _)) (pe_one (pe_callB (cr_all rfl) rfl B.all boot_all (pa_cons (pe_lc (own:=[("tree",4),("many",5)]) (g:=(gTup K 2 (gCons (gName 4) (gCons (gName 5) gNil)))) (tt:=tYes) (te:=(tOp (rI0 fun i j=>.bl (decide (i<=j))) (tVar 5) (tC (.int (1000000000))))) rfl sc_q39.nd (pi_list (pv 3)) (blkOk_by (N:=zdo) (sc:=defScope z3s) (by decide +kernel)) (fun _ _ _ _ _=>(pg_tup rfl (pgs_cons (pg_name (i:=4) sc_q39.nd rfl (.inl rfl)) (pgs_cons (pg_name (i:=5) sc_q39.nd rfl (.inl rfl)) pgs_nil)))) (fun _ _ _ _ _=>pts_nil) (fun _ _ _ _ _=>(pe_cmpR op_le (pv 5) (pe_glob (v:=.int (1000000000)) rfl h_MOST_MANY ⟨_,rfl⟩) (nomark _)))) pa_nil))))))))),?_⟩
 have no:¬ RuD d->∀ H',SB [] H H'->Q (.bl false) H':=fun e H' s'=>q false H' s' ⟨(fun z=>nomatch z),fun z=>absurd z e⟩
 obtain ⟨n1,b,ty,kb,y1,y2⟩:=th.ty
 refine ⟨_,rfl,_,_,n1,b,rfl,ty,kb,b,rfl,?_⟩
 cases b with
 | false =>
  refine iteT (iteT (no ?_ _ SB.refl))
  rintro ⟨r,e,_⟩
  exact y2 rfl _ e
 | true =>
 refine iteF ?_
 obtain ⟨a,xs,ds,rfl,rfl,hs,ha⟩:=y1 rfl
 refine ⟨_,rfl,a,xs,rfl,.inr hs,rfl,_,rfl,?_⟩
 have hl:=TgAll.length ha
 by_cases c2:xs.length=2
 ·rw [show (!decide (V.int (xs.length:Nat)=V.int 2))=false by rw [c2]; rfl]
  refine iteF ?_
  cases ha with
  | nil=>simp at c2
  | cons t1 ta =>
   cases ta with
   | nil=>simp at c2
   | cons t2 ta =>
    cases ta with
    | cons t3 ta=>simp at c2
    | nil =>
     rename_i v1 d1 v2 d2
     obtain ⟨f1,f2,f3⟩:=hf
     have q1:d1.depth < PyData.depth (.tuple [d1,d2])/\d2.depth < PyData.depth (.tuple [d1,d2]):=by simp only [PyData.depth,PyData.depthAll]; omega
     have q2:wide d1<=wide (.tuple [d1,d2])/\wide d2<=wide (.tuple [d1,d2]):=by simp only [wide,z16]; omega
     refine ⟨_,rfl,a,_,rfl,hs,rfl,_,_,rfl,_,_,rfl,rfl,?_⟩
     refine ⟨_,rfl,v1,d1,rfl,t1,by omega,by omega,by omega,fun H1 s1=>?_⟩
     refine ⟨_,rfl,?_⟩
     cases g1:z08 d1 with
     | false =>
      refine iteT (iteT (no ?_ _ s1))
      intro z
      obtain ⟨g,k,e,z1,_⟩:=za3 z
      injection e with e
      injection e with e _
      rw [e,z1] at g1
      cases g1
     | true =>
     refine iteF ?_
     refine ⟨_,rfl,v2,d2,rfl,z25 s1 t2,by omega,by omega,by omega,fun H2 s2=>?_⟩
     have s02:=s1.trans s2
     refine ⟨_,rfl,?_⟩
     cases g2:z08 d2 with
     | false =>
      refine iteT (no ?_ _ s02)
      intro z
      obtain ⟨g,k,e,_,z1⟩:=za3 z
      injection e with e
      injection e with _ e
      injection e with e _
      rw [e,z1] at g2
      cases g2
     | true =>
     refine iteF ?_
     obtain ⟨u1,rfl⟩:=z4t _ g1
     obtain ⟨u2,rfl⟩:=z4t _ g2
     obtain ⟨w1,w2⟩:=f3 _ _ rfl u1 (.inl rfl)
     obtain ⟨w3,w4⟩:=f3 _ _ rfl u2 (.inr rfl)
     have ga1:GA K H v1 u1:=by
      cases t1 with
      | tup h1 h2=>exact .tup h1 (z3v u1 h2)
     have ga2:GA K H v2 u2:=by
      cases t2 with
      | tup h1 h2=>exact .tup h1 (z3v u2 h2)
     refine ⟨_,rfl,_,u1,rfl,ga1.sb s02,by omega,by omega,fun D1 us1 H3 s3 hn1 hD1 hb1=>?_⟩
     refine ⟨_,rfl,_,u2,rfl,(ga2.sb s02).sb s3,by omega,by omega,fun D2 us2 H4 s4 hn2 hD2 hb2=>?_⟩
     have l1:=hb1.length
     have l2:=hb2.length
     rw [Gr.within_length] at l1 l2
     have szl:=sizeLine_eq
     refine ⟨D1,D2,us1,us2,rfl,rfl,s4.keep _ _ hD1 nmn,hD2,by omega,fun D3 hn3=>?_⟩
     have t5:=SB.new (ps:=[]) hn3 (.lst (us1++us2))
     have s05:=((s02.trans s3).trans s4).trans t5
     have hD3:upd H4 D3 (.lst (us1++us2)) D3=some (.lst (us1++us2)):=upd_same
     have hb3:Bears K (upd H4 D3 (.lst (us1++us2))) Gr.pEnc (us1++us2) (u1.within++u2.within):=Bears.append ((hb1.sb s4 Gr.noList_pEnc).sb t5 Gr.noList_pEnc) (hb2.sb t5 Gr.noList_pEnc)
     generalize upd H4 D3 (.lst (us1++us2))=H5 at t5 s05 hD3 hb3
     have iff1:=zft g1 g2
     refine ⟨_,rfl,D3,_,rfl,.inl (SqL.of hD3),_,_,rfl,rfl,_,rfl,?_⟩
     refine ite2 (fun c=>?_) (fun c=>?_)
     ·have c1:=of_decide_eq_true c
      rw [List.length_append,l1,l2] at c1
      have bl3:=hb3.length
      refine ⟨_,rfl,D3,rfl,⟨_,SqL.of hD3⟩,fun D hD=>?_⟩
      refine z34 (walk_list (xs:=us1++us2)) hD (by rw [List.length_append]; omega) (fun i us _=>us=((u1.within++u2.within).take i).map fun p=>V.bl (decide (p.2<=1000000000))) rfl (fun H6 s6=>s6.sqL nmn (SqL.of hD3)) (fun _ _ _ _ _ h=>h) (fun Pv i x H6 H' us hi s6 y hR hl6 fin _=>?_) (fun us H6 s6 hD6 hR _=>?_)
      ·obtain ⟨rfl,ex⟩:=y
       obtain ⟨p,ep,hpd⟩:=hb3.get ex
       obtain ⟨ad,td,ux,rfl,hs2,hs3,hga,hdt⟩:=z0h hpd
       refine ⟨ad,_,rfl,s6.sqT hs2,rfl,_,_,rfl,_,_,rfl,rfl,rfl,?_⟩
       refine ⟨_,rfl,_,_,rfl,rfl,fin _ _ SB.refl ?_⟩
       rw [hR,List.take_add_one,ep,Option.toList_some,List.map_append]; rfl
      ·rw [bl3,List.take_length] at hR
       subst hR
       refine ⟨D,((u1.within++u2.within).map fun p=>decide (p.2<=1000000000)),rfl,SqL.of (by rw [List.map_map]; exact hD6),q _ _ (s05.trans s6) ?_⟩
       rw [iff1]
       simp only [List.all_map,List.all_eq_true,Function.comp,id_eq,decide_eq_true_eq]
       exact ⟨fun h=>⟨by omega,h⟩,fun h=>h.2⟩
     ·have c1:=of_decide_eq_false (Bool.eq_false_iff.mpr c)
      rw [List.length_append,l1,l2] at c1
      refine q false _ s05 ⟨(fun z=>nomatch z),fun z=>absurd (iff1.mp z).1 (by omega)⟩
 ·rw [show (!decide (V.int (xs.length:Nat)=V.int 2))=true by rw [decide_eq_false (fun z=>by injection z with z; omega)]; rfl]
  refine iteT (no ?_ _ SB.refl)
  rintro ⟨r,e,_⟩
  have e':PyData.tuple ds=.tuple [r.1.enc,r.2.enc]:=e
  injection e' with e'
  rw [e'] at hl
  exact c2 hl
abbrev zf6:List Str:=["rule","names","once","each","tree","many"]
theorem sc_q40:FnScope zf6 ["rule","names"] (defScope z47):=⟨rfl,rfl,rfl,by decide +kernel,rfl,by decide +kernel,by decide +kernel⟩
theorem zht (B:BI mg) (G_q47:Got P w K mg base "pairs_within" ["grove"] (70) (z1a K 70)) (F:Fun K "is_rule_of" "is_rule_of" z47 f fd):FnOk P w K mg base CX0 (71) f fd ["rule","names"] (z27 K):=by
 refine F.ok sc_q40 (fun vs H Q E h=>?_) (fun cdv A outer s H vs Q E hr h=>?_)
 ·obtain ⟨v,l,r,ns,rfl,_⟩:=h
  rfl
 obtain ⟨v,l,r,ns,rfl,hv,ho,hs,hn,q⟩:=h
 have hun2:=hunT hr
 refine ⟨_,pss_cons (ps_asg (pv 0) (pg_tup rfl (pgs_cons (pg_name (i:=2) sc_q40.nd rfl (.inl rfl)) (pgs_cons (pg_name (i:=3) sc_q40.nd rfl (.inl rfl)) pgs_nil))))
  (pss_one (ps_ret (pe_callB (cr_all rfl) rfl B.all boot_all (pa_cons (pe_lc (own:=[("tree",4),("many",5)]) (g:=(gTup K 2 (gCons (gName 4) (gCons (gName 5) gNil)))) (tt:=tYes) (te:=(tOp (rIn K false) (tOp (rIxT K) (tVar 4) (tC (.int 0))) (tVar 1))) rfl sc_q40.nd (pi_list (pe_op op_cat (z00 G_q47 (hr.mono (by omega)) rfl (pa_cons (pv 2) pa_nil)) (z00 G_q47 (hr.mono (by omega)) rfl (pa_cons (pv 3) pa_nil)))) (blkOk_by (N:=zf6) (sc:=defScope z47) (by decide +kernel)) (fun _ _ _ _ _=>(pg_tup rfl (pgs_cons (pg_name (i:=4) sc_q40.nd rfl (.inl rfl)) (pgs_cons (pg_name (i:=5) sc_q40.nd rfl (.inl rfl)) pgs_nil)))) (fun _ _ _ _ _=>pts_nil) (fun _ _ _ _ _=>(pe_cmpR op_in_seq (pe_ix ix_tup (pv 4) pe_int (fun _ _=>rfl)) (pv 1) (by rfl)))) pa_nil)))),?_⟩
 obtain ⟨ho1,ho2,ho3⟩:=ho
 cases (hv:Dp K H v (.tuple [r.1.enc,r.2.enc])) with
 | tup ht hd =>
 rename_i a xs
 cases hd with
 | cons g1 hd =>
 cases hd with
 | cons g2 hd =>
 cases hd
 have dp1:=(z0d r.1)
 have dp2:=(z0d r.2)
 refine ⟨_,rfl,a,_,rfl,ht,rfl,_,_,rfl,_,_,rfl,rfl,?_⟩
 have ga1:GA K H _ r.1:=g1
 have ga2:GA K H _ r.2:=g2
 refine ⟨_,rfl,_,r.1,rfl,ga1,by omega,by omega,fun D1 us1 H3 s3 hn1 hD1 hb1=>?_⟩
 refine ⟨_,rfl,_,r.2,rfl,ga2.sb s3,by omega,by omega,fun D2 us2 H4 s4 hn2 hD2 hb2=>?_⟩
 have l1:=hb1.length
 have l2:=hb2.length
 rw [Gr.within_length] at l1 l2
 have szl:=sizeLine_eq
 refine ⟨D1,D2,us1,us2,rfl,rfl,s4.keep _ _ hD1 nmn,hD2,by omega,fun D3 hn3=>?_⟩
 have t5:=SB.new (ps:=[]) hn3 (.lst (us1++us2))
 have s05:=(s3.trans s4).trans t5
 have hD3:upd H4 D3 (.lst (us1++us2)) D3=some (.lst (us1++us2)):=upd_same
 have hb3:Bears K (upd H4 D3 (.lst (us1++us2))) Gr.pEnc (us1++us2) (r.1.within++r.2.within):=Bears.append ((hb1.sb s4 Gr.noList_pEnc).sb t5 Gr.noList_pEnc) (hb2.sb t5 Gr.noList_pEnc)
 generalize upd H4 D3 (.lst (us1++us2))=H5 at t5 s05 hD3 hb3
 have bl3:=hb3.length
 refine ⟨D3,rfl,⟨_,SqL.of hD3⟩,fun D hD=>?_⟩
 refine z34 (walk_list (xs:=us1++us2)) hD (by rw [List.length_append]; omega) (fun i us _=>us=((r.1.within++r.2.within).take i).map fun p=>V.bl (decide (p.1.1 ∈ ns))) rfl (fun H6 s6=>s6.sqL nmn (SqL.of hD3)) (fun _ _ _ _ _ h=>h) (fun Pv i x H6 H' us hi s6 y hR hl6 fin _=>?_) (fun us H6 s6 hD6 hR _=>?_)
 ·obtain ⟨rfl,ex⟩:=y
  obtain ⟨p,ep,hpd⟩:=hb3.get ex
  obtain ⟨ad,td,ux,rfl,hs2,hs3,hga,hdt⟩:=z0h hpd
  refine ⟨ad,_,rfl,s6.sqT hs2,rfl,_,_,rfl,_,_,rfl,rfl,rfl,?_⟩
  refine ⟨_,rfl,td,_,_,_,rfl,rfl,s6.sqT hs3,atI_nat (j:=0) rfl,_,rfl,l,_,rfl,.inl ((s05.trans s6).sqL nmn hs),rfl,z7n _,fin _ _ SB.refl ?_⟩
  rw [hR,List.take_add_one,ep,Option.toList_some,List.map_append,z85]; rfl
 ·rw [bl3,List.take_length] at hR
  subst hR
  refine ⟨D,((r.1.within++r.2.within).map fun p=>decide (p.1.1 ∈ ns)),rfl,SqL.of (by rw [List.map_map]; exact hD6),?_⟩
  have:=q _ (s05.trans s6)
  rw [show (List.map (fun p:Tr × Int=>decide (p.1.1 ∈ ns)) (r.1.within++r.2.within)).all id=decide (∀ p ∈ Ru.within r,p.1.1 ∈ ns) by
   rw [Bool.eq_iff_iff]
   simp only [List.all_map,List.all_eq_true,Function.comp,id_eq,decide_eq_true_eq]
   exact Iff.rfl]
  exact this
abbrev zj9:List Str:=["many"]
theorem zgy:FnScope zj9 ["many"] (defScope z52):=⟨rfl,rfl,rfl,by decide +kernel,rfl,by decide +kernel,by decide +kernel⟩
theorem zh4 (B:BI mg) (L_TOO_LONG:∃ t,mg "TOO_LONG"=some (.int (1000000000000000000000000000000000000000000000000000000000000000000000000000000000000000000000000000000000000000000000000000000000000000000000000000000000000000000000000000000000000000000000000000000000000000000000000000000000000000000000000000000000000000000000000000000000000000000000000000000000000) t)) (F:Fun K "capped" "capped" z52 f fd):FnOk P w K mg base CX0 (1) f fd ["many"] (z6z):=by
 refine F.ok zgy (fun vs H Q E h=>?_) (fun cdv A outer s H vs Q E hr h=>?_)
 ·obtain ⟨x,rfl,_⟩:=h
  rfl
 obtain ⟨x,rfl,q⟩:=h
 obtain ⟨tk_TOO_LONG,h_TOO_LONG⟩:=L_TOO_LONG
 have hun2:=hunT hr
 refine ⟨_,pss_one (ps_ret (pe_callB (call_min2 rfl) rfl B.min boot_min (pa_cons (pv 0) (pa_cons (pe_glob (v:=.int (1000000000000000000000000000000000000000000000000000000000000000000000000000000000000000000000000000000000000000000000000000000000000000000000000000000000000000000000000000000000000000000000000000000000000000000000000000000000000000000000000000000000000000000000000000000000000000000000000000000000000)) rfl h_TOO_LONG ⟨_,rfl⟩) pa_nil)))),?_⟩
 refine ⟨_,rfl,x,_,rfl,?_⟩
 have e:(if CAP < x then CAP else x)=capI x:=by unfold capI; split <;> split <;> omega
 have q1:=q H SB.refl
 rw [<- e] at q1
 exact q1
abbrev zj6:List Str:=["many"]
theorem zhy:FnScope zj6 ["many"] (defScope z4z):=⟨rfl,rfl,rfl,by decide +kernel,rfl,by decide +kernel,by decide +kernel⟩
theorem zh0 {C_TooLong:Addr} (B:BI mg) (O_TooLong:Own K mg "TooLong" C_TooLong) (L_TOO_LONG:∃ t,mg "TOO_LONG"=some (.int (1000000000000000000000000000000000000000000000000000000000000000000000000000000000000000000000000000000000000000000000000000000000000000000000000000000000000000000000000000000000000000000000000000000000000000000000000000000000000000000000000000000000000000000000000000000000000000000000000000000000000) t)) (F:Fun K "check_long" "check_long" z4z f fd):FnOk P w K mg base (L2.CX P w) (1) f fd ["many"] (z4s C_TooLong):=by
 refine F.okX zhy (fun vs H Q E h=>?_) (fun cdv A outer s H vs Q E hr h=>?_)
 ·obtain ⟨x,rfl,_⟩:=h
  rfl
 obtain ⟨x,rfl,q0,q1⟩:=h
 obtain ⟨tk_TOO_LONG,h_TOO_LONG⟩:=L_TOO_LONG
 have hun2:=hunT hr
 refine ⟨_,pss_one (ps_if (pt_cmpR op_ge (pv 0) (pe_glob (v:=.int (1000000000000000000000000000000000000000000000000000000000000000000000000000000000000000000000000000000000000000000000000000000000000000000000000000000000000000000000000000000000000000000000000000000000000000000000000000000000000000000000000000000000000000000000000000000000000000000000000000000000000)) rfl h_TOO_LONG ⟨_,rfl⟩) (nomark _)) (pss_one (ps_raise rfl (takes_of rfl rfl rfl rfl) (pmk_own PySem.F.excBase_ValueError O_TooLong.q O_TooLong.gC O_TooLong.k (raises_own O_TooLong.s O_TooLong.t) rfl))) pss_nil),?_⟩
 refine ⟨_,rfl,_,_,rfl,rfl,decide (CAP<=x),rfl,?_⟩
 by_cases h:CAP<=x
 ·rw [decide_eq_true h]; exact iteT (q1 h H SB.refl)
 ·rw [decide_eq_false h]; exact iteF (q0 (by omega) H SB.refl)
abbrev zey:List Str:=["book","counts","grove","bound","tree","many"]
theorem sc_q27:FnScope zey ["book","counts","grove","bound"] (defScope z3r):=⟨rfl,rfl,rfl,by decide +kernel,rfl,by decide +kernel,by decide +kernel⟩
theorem zgh {n:Nat} {C_Book:Addr} (B:BI mg) (G_q20:Got P w K mg base "capped" ["many"] (1) (z6z)) (G_q28:Got P w K mg base "count_of" ["book","counts","tree","bound"] (2*n+6) (z33 K C_Book n)) (F:Fun K "count_in" "count_in" z3r f fd):FnOk P w K mg base CX0 (2*n+7) f fd ["book","counts","grove","bound"] (z2e K C_Book (n+1)):=by
 refine F.ok sc_q27 (fun vs H Q E h=>?_) (fun cdv A outer s H vs Q E hr h=>?_)
 ·obtain ⟨v,u,d,b,κ,ns,g,D,C,rfl,_⟩:=h
  rfl
 obtain ⟨v,u,d,b,κ,ns,g,D,C,rfl,hv,hl,hw,hg,ok,hC,hgd,hp,hin,hk,hD,q⟩:=h
 have hun2:=hunT hr
 refine ⟨_,pss_one (ps_ret (z00 G_q20 (hr.mono (by omega)) rfl (pa_cons (pe_callB (cr_sum rfl) rfl B.sum boot_sum (pa_cons (pe_lc (own:=[("tree",4),("many",5)]) (g:=(gTup K 2 (gCons (gName 4) (gCons (gName 5) gNil)))) (tt:=tYes) (te:=(tOp (rI CMulW fun i j=>.int (i*j)) (tVar 5) (tCall (z33 K C_Book n) [] E0 (tCons (tVar 0) (tCons (tVar 1) (tCons (tVar 4) (tCons (tVar 3) tNil))))))) rfl sc_q27.nd (pi_tup (pv 2)) (blkOk_by (N:=zey) (sc:=defScope z3r) (by decide +kernel)) (fun _ _ _ _ _=>(pg_tup rfl (pgs_cons (pg_name (i:=4) sc_q27.nd rfl (.inl rfl)) (pgs_cons (pg_name (i:=5) sc_q27.nd rfl (.inl rfl)) pgs_nil)))) (fun _ _ _ _ _=>pts_nil) (fun _ _ _ _ _=>(pe_op op_mulW (pv 5) (z00 G_q28 (hr.mono (by omega)) rfl (pa_cons (pv 0) (pa_cons (pv 1) (pa_cons (pv 4) (pa_cons (pv 3) pa_nil)))))))) pa_nil)) pa_nil))),?_⟩
 obtain ⟨a,xs,rfl,hs,hb⟩:=z0g hg
 have xl:=hb.length
 have lp:=g.len_parts
 have szl:=sizeLine_eq
 refine ⟨_,rfl,a,rfl,⟨xs,hs⟩,fun D0 hD0=>?_⟩
 refine z34 (walk_tup (xs:=xs)) hD0 (by omega) (fun i us H2=>us=((g.ps.take i).map fun p:Tr × Int=>V.int (p.2*Gr.cot b κ D p.1))) rfl (fun H2 s2=>s2.sqT hs) (fun i us H2 H3 s3 h=>h) (fun Pv i x Hq H2 us hi s2 y hR hu fin skip=>?_) (fun us H2 s2 hD2 hR hu=>?_)
 ·obtain ⟨rfl,ey⟩:=y
  obtain ⟨p,ep,hpd⟩:=hb.get ey
  have pm:=List.mem_of_getElem? ep
  obtain ⟨ad,td,ux,rfl,hs2,hs3,hga,htd⟩:=z0h hpd
  have pd:=g.mem_deep p pm
  have pp:=g.mem_parts p pm
  obtain ⟨o1,o2,o3,o4⟩:=(Gr.ok_iff.mp ok).1 p pm
  have pw:p ∈ g.within:=by rw [Gr.within_ps]; exact List.mem_flatMap.mpr ⟨p,pm,mcs ..⟩
  have pin:∀ x ∈ p.1.2.within,x ∈ g.within:=fun x hx=>by rw [Gr.within_ps]; exact List.mem_flatMap.mpr ⟨p,pm,mcm _ hx⟩
  have ct:=z7a (w:=b.wide p.1.1) (hk p.1.1) (Gr.cin_nn (b:=b) hk hD.1 o2).1 hD.1
  have b2:p.2.natAbs < 2 ^ 2000:=by
   have h3:(2:Int) ^ 1000 < 2 ^ 2000:=by decide +kernel
   have h2:((2 ^ 2000:Nat):Int)=2 ^ 2000:=by rw [Int.natCast_pow]; rfl
   omega
  refine ⟨ad,_,rfl,s2.sqT hs2,rfl,_,_,rfl,_,_,rfl,rfl,rfl,?_⟩
  refine ⟨_,rfl,_,rfl,_,rfl,_,rfl,_,rfl,v,.ref td,d,b,κ,ns,p.1.1,p.1.2,D,C,rfl,hv.sb0 s2,hl,hw.sb0 s2,z07 s2 _ _ (Gr.noList_tEnc _) htd,o2,hC,by omega,by omega,hin p pw,fun x hx=>hin x (pin x hx),hk,hD,fun H3 s3=>?_⟩
  refine ⟨_,_,rfl,rfl,zf0 b2 (z9c ct.1 ct.2),fin _ H3 s3 ?_⟩
  rw [hR,List.take_add_one,ep,List.map_append]
  rfl
 ·rw [xl,List.take_length] at hR
  subst hR
  refine ⟨D0,g.ps.map fun p:Tr × Int=>p.2*Gr.cot b κ D p.1,rfl,?_,?_⟩
  ·refine SqL.of ?_
   rw [hD2,List.map_map]; rfl
  ·refine ⟨_,rfl,fun H3 s3=>?_⟩
   have q1:=q H3 (s2.trans s3)
   unfold Gr.cin at q1
   rw [Gr.cu_ps] at q1
   exact q1
abbrev zic:List Str:=["book","counts","tree","bound","kind","held","inner"]
theorem sc_q28:FnScope zic ["book","counts","tree","bound"] (defScope z5m):=⟨rfl,rfl,rfl,by decide +kernel,rfl,by decide +kernel,by decide +kernel⟩
theorem zbi {n:Nat} {C_Book C_NoKind:Addr} (B:BI mg) (G_q27:Got P w K mg base "count_in" ["book","counts","grove","bound"] (2*n+5) (z2e K C_Book n)) (G_q3:z3p P w K mg base C_Book "spreads" ["self","name"] (4) (z2b K C_Book C_NoKind)) (G_q53:Got P w K mg base "spread_count" ["own","inner","bound"] (2) (zan)) (G_q20:Got P w K mg base "capped" ["many"] (1) (z6z)) (F:Fun K "count_of" "count_of" z5m f fd):FnOk P w K mg base CX0 (2*n+6) f fd ["book","counts","tree","bound"] (z33 K C_Book n):=by
 refine F.ok sc_q28 (fun vs H Q E h=>?_) (fun cdv A outer s H vs Q E hr h=>?_)
 ·obtain ⟨v,t,d,b,κ,ns,k,g,D,C,rfl,_⟩:=h
  rfl
 obtain ⟨v,t,d,b,κ,ns,k,g,D,C,rfl,hv,hl,hw,ht,ok,hC,hgd,hp,⟨kn,kb⟩,hin,hk,hD,q⟩:=h
 have hun2:=hunT hr
 refine ⟨_,pss_cons (ps_asg (pv 2) (pg_tup rfl (pgs_cons (pg_name (i:=4) sc_q28.nd rfl (.inl rfl)) (pgs_cons (pg_name (i:=5) sc_q28.nd rfl (.inl rfl)) pgs_nil))))
  (pss_cons (ps_set (i:=6) sc_q28.nd rfl (.inl rfl) (z00 G_q27 (hr.mono (by omega)) rfl (pa_cons (pv 0) (pa_cons (pv 1) (pa_cons (pv 5) (pa_cons (pv 3) pa_nil))))))
  (pss_cons (ps_if (pt_val (z8u G_q3 (hr.mono (by omega)) (pv 0) (pa_cons (pv 4) pa_nil))) (pss_one (ps_ret (z00 G_q53 (hr.mono (by omega)) rfl (pa_cons (pe_dget (by show A.units+3+1 < cLine; omega) (pv 1) (pv 4) (fun _ _=>rfl)) (pa_cons (pv 6) (pa_cons (pv 3) pa_nil)))))) pss_nil)
  (pss_one (ps_ret (z00 G_q20 (hr.mono (by omega)) rfl (pa_cons (pe_op op_add (pe_dget (by show A.units+3+1 < cLine; omega) (pv 1) (pv 4) (fun _ _=>rfl)) (pv 6)) pa_nil)))))),?_⟩
 obtain ⟨a,u,rfl,hs,hga⟩:=z8b ht
 have hdv:=hw.val kn
 refine ⟨_,rfl,a,_,rfl,hs,rfl,_,_,rfl,_,_,rfl,rfl,?_⟩
 refine ⟨_,rfl,_,rfl,_,rfl,_,rfl,v,u,d,b,κ,ns,g,D,C,rfl,hv,hl,hw,hga,ok,hC,hgd,hp,hin,hk,hD,fun H1 s1=>?_⟩
 refine z09 ?_
 obtain ⟨va,vdx,vd1,vd2,rfl,hva⟩:=(hv.sb0 s1).at
 obtain ⟨kd,eg⟩:=Bk.get_of kb
 have cn:=Gr.cin_nn (b:=b) hk hD.1 ok
 refine ⟨_,rfl,va,vdx,_,rfl,hva,rfl,_,rfl,?_⟩
 refine ⟨_,b,k,rfl,hv.sb0 s1,hl,fun k' e' H2 s2=>?_,fun z=>by rw [eg] at z; cases z⟩
 rw [eg] at e'
 cases e'
 have s12:=s1.trans s2
 have hdv2:=(hw.sb0 s12).val kn
 refine ⟨_,rfl,?_⟩
 have hwd:b.wide k=kd.w:=Bk.wide_get eg
 cases hkw:kd.w with
 | true =>
  have e:Gr.cot b κ D (k,g)=spcI (κ k) (Gr.cin b κ D g) D:=by
   show cofI (b.wide k) _ _ _=_
   rw [hwd,hkw]; exact if_pos rfl
  refine iteT ⟨_,rfl,_,rfl,d,_,rfl,hdv2,?_⟩
  refine ⟨_,rfl,_,rfl,_,_,_,rfl,hk k,cn.1,hD,fun H3 s3=>?_⟩
  have q1:=q H3 (s12.trans s3)
  rw [e] at q1
  exact q1
 | false =>
  have e:Gr.cot b κ D (k,g)=capI (κ k+Gr.cin b κ D g):=by
   show cofI (b.wide k) _ _ _=_
   rw [hwd,hkw]; exact if_neg (by simp)
  refine iteF ⟨_,rfl,_,rfl,d,_,rfl,hdv2,?_⟩
  refine ⟨_,rfl,_,_,rfl,rfl,_,rfl,fun H3 s3=>?_⟩
  have q1:=q H3 (s12.trans s3)
  rw [e] at q1
  exact q1
abbrev zj7:List Str:=["own","inner","bound","many","left"]
theorem sc_q53:FnScope zj7 ["own","inner","bound"] (defScope z5x):=⟨rfl,rfl,rfl,by decide +kernel,rfl,by decide +kernel,by decide +kernel⟩
theorem zg8 (B:BI mg) (L_TOO_LONG:∃ t,mg "TOO_LONG"=some (.int (1000000000000000000000000000000000000000000000000000000000000000000000000000000000000000000000000000000000000000000000000000000000000000000000000000000000000000000000000000000000000000000000000000000000000000000000000000000000000000000000000000000000000000000000000000000000000000000000000000000000000) t)) (G_q20:Got P w K mg base "capped" ["many"] (1) (z6z)) (F:Fun K "spread_count" "spread_count" z5x f fd):FnOk P w K mg base CX0 (2) f fd ["own","inner","bound"] (zan):=by
 refine F.ok sc_q53 (fun vs H Q E h=>?_) (fun cdv A outer s H vs Q E hr h=>?_)
 ·obtain ⟨o,i,b,rfl,_⟩:=h
  rfl
 obtain ⟨o,i,b,rfl,ho,hi,hb,q⟩:=h
 obtain ⟨tk_TOO_LONG,h_TOO_LONG⟩:=L_TOO_LONG
 have hun2:=hunT hr
 refine ⟨_,pss_cons (ps_if (pt_cmpR op_eq (pv 2) pe_int (nomark _)) (pss_one (ps_ret (z00 G_q20 (hr.mono (by omega)) rfl (pa_cons (pe_op op_add (pv 0) (pv 1)) pa_nil)))) pss_nil)
  (pss_cons (ps_set (i:=3) sc_q53.nd rfl (.inl rfl) (pv 0))
  (pss_cons (ps_set (i:=4) sc_q53.nd rfl (.inl rfl) (pv 1))
  (pss_cons (ps_while PassesOwn.never (PW.pt (pw_and (pt_cmpR op_gt (pv 4) pe_int (nomark _)) (pw_and1 (pt_cmpR op_lt (pv 3) (pe_glob (v:=.int (1000000000000000000000000000000000000000000000000000000000000000000000000000000000000000000000000000000000000000000000000000000000000000000000000000000000000000000000000000000000000000000000000000000000000000000000000000000000000000000000000000000000000000000000000000000000000000000000000000000000000)) rfl h_TOO_LONG ⟨_,rfl⟩) (nomark _))))) (pss_cons (ps_set (i:=3) sc_q53.nd rfl (.inl rfl) (pe_op op_add pe_int (pe_op op_mulW (pe_op op_add pe_int (pv 2)) (pv 3))))
  (pss_one (ps_aug (i:=4) sc_q53.nd rfl (.inl rfl) pe_int ip_sub))))
  (pss_one (ps_ret (z00 G_q20 (hr.mono (by omega)) rfl (pa_cons (pv 3) pa_nil))))))),?_⟩
 have hb0:0<=b:=hb.1
 refine ⟨_,rfl,rfl,_,rfl,?_⟩
 by_cases h0:b=0
 ·rw [decide_eq_true (by rw [h0])]
  refine iteT ⟨_,rfl,_,rfl,_,_,rfl,rfl,o+i,rfl,fun H' s=>?_⟩
  have e:spcI o i b=capI (o+i):=if_pos h0
  have q1:=q H' s
  rw [e] at q1
  exact q1
 rw [decide_eq_false (fun z=>h0 (by injection z))]
 refine iteF ⟨_,rfl,?_⟩
 refine z09 ⟨_,rfl,?_⟩
 refine z09 ?_
 have e:spcI o i b=capI (itF b i.toNat o):=if_neg h0
 refine ⟨fun mm σ H2=>∃ (k:Nat) (m:Int),mm=k/\0<=m/\SB [] H H2/\σ=[some (.int o),some (.int i),some (.int b),some (.int m),some (.int (k:Int))]/\itF b k m=itF b i.toNat o,
  ⟨i.toNat,i.toNat,o,rfl,ho,SB.refl,by rw [Int.toNat_of_nonneg hi]; rfl,rfl⟩,fun mm σ H2 h2=>?_⟩
 obtain ⟨k,m,hmk,hm,s2,rfl,hk⟩:=h2
 refine ⟨_,rfl,_,_,rfl,rfl,_,rfl,?_⟩
 cases k with
 | zero =>
  rw [show decide ((0:Int) < ((0:Nat):Int))=false from decide_eq_false (by omega)]
  refine iteF (iteF ⟨_,rfl,m,rfl,fun H' s=>?_⟩)
  have q1:=q H' (s2.trans s)
  rw [e,<- hk] at q1
  exact q1
 | succ k =>
  rw [show decide ((0:Int) < ((k+1:Nat):Int))=true from decide_eq_true (by omega)]
  refine iteT ⟨_,rfl,_,_,rfl,rfl,decide (m < CAP),rfl,?_⟩
  by_cases hc:m < CAP
  ·rw [decide_eq_true hc]
   refine iteT ⟨_,fun σ' H' h=>⟨k,by omega,h⟩,?_⟩
   refine ⟨_,rfl,_,_,rfl,rfl,_,rfl,_,_,rfl,rfl,zf0 hb.bits1 (z9c hm (by omega)),_,_,rfl,rfl,?_⟩
   refine z09 ?_
   refine ⟨_,rfl,_,_,rfl,rfl,?_⟩
   have m1:=z4r hb0 hm
   refine ⟨k,spF b m,rfl,by omega,s2,?_,hk⟩
   rw [show ((k:Nat):Int)=((k+1:Nat):Int)-1 by omega]
   rfl
  ·rw [decide_eq_false hc]
   refine iteF ⟨_,rfl,m,rfl,fun H' s=>?_⟩
   have q1:=q H' (s2.trans s)
   rw [e,<- hk,zcb hb0 hm (by omega),<- z41 (show CAP<=m by omega)] at q1
   exact q1
abbrev zjc:List Str:=["grove","place","tree","row","at"]
theorem sc_q57:FnScope zjc ["grove","place"] (defScope z5c):=⟨rfl,rfl,rfl,by decide +kernel,rfl,by decide +kernel,by decide +kernel⟩
theorem zh6 {C:Addr} (B:BI mg) (O:Own K mg "NoPlace" C) (GW:Got P w K mg base "is_whole" ["thing"] 1 (z2f K)) (F:Fun K "tree_at" "tree_at" z5c f fd):FnOk P w K mg base (L2.CX P w) 2 f fd ["grove","place"] (z44 K C):=by
 refine F.okX sc_q57 (fun vs H Q E h=>?_) (fun cdv A outer s H vs Q E hr h=>?_)
 ·obtain ⟨v,g,a,xs,os,rfl,_⟩:=h
  rfl
 obtain ⟨v,g,a,xs,os,rfl,hv,hs,hw,q,qE⟩:=h
 refine ⟨_,pss_cons (ps_if (pt_not (pt_truth (pv 1) (by intro _; rfl))) (pss_one (ps_raise rfl (takes_of rfl rfl rfl rfl) (pmk_own PySem.F.excBase_ValueError O.q O.gC O.k (raises_own O.s O.t) rfl))) pss_nil)
  (pss_cons (ps_set (i:=2) sc_q57.nd rfl (.inl rfl) (pe_tup pa_nil))
  (pss_cons (ps_set (i:=3) sc_q57.nd rfl (.inl rfl) (pv 0))
  (pss_cons (ps_for (passes_of rfl) rfl (pi_tup (pv 1)) (pg_name (i:=4) sc_q57.nd rfl (.inl rfl))
   (pss_cons (ps_if (PW.pt (pw_or (pt_not (pt_val (z00 GW hr rfl (pa_cons (pv 4) pa_nil)))) (pw_or1 (pt_not (pt_chain op_le op_lt pe_int (pv 4) (pe_callB call_len_seq rfl B.len PySem.boot_len (pa_cons (pv 3) pa_nil)))))))
    (pss_one (ps_raise rfl (takes_of rfl rfl rfl rfl) (pmk_own PySem.F.excBase_ValueError O.q O.gC O.k (raises_own O.s O.t) rfl))) pss_nil)
   (pss_cons (ps_set (i:=2) sc_q57.nd rfl (.inl rfl) (pe_ix ix_tup (pe_ix ix_tup (pv 3) (pv 4) (fun _ _=>rfl)) pe_int (fun _ _=>rfl)))
   (pss_one (ps_set (i:=3) sc_q57.nd rfl (.inl rfl) (pe_ix ix_tup (pv 2) pe_int (fun _ _=>rfl)))))))
  (pss_one (ps_ret (pv 2)))))),?_⟩
 have wl:=hw.length
 by_cases hnil:os=[]
 ·have x0:xs=[]:=by rw [hnil] at wl; exact List.length_eq_zero_iff.mp wl
  exact ⟨_,rfl,false,.inr (.inl ⟨xs,hs,by rw [x0]; rfl⟩),iteT (qE (.inl hnil) _ SB.refl)⟩
 have x1:xs ≠ []:=fun z=>hnil (by rw [z] at wl; exact List.length_eq_zero_iff.mp wl.symm)
 refine ⟨_,rfl,true,.inr (.inl ⟨xs,hs,by cases xs with | nil=>exact absurd rfl x1 | cons _ _=>rfl⟩),iteF ?_⟩
 refine ⟨(by show 0<=sizeLine; decide),fun e0 he0=>?_⟩
 have t0:=SB.new (ps:=[]) he0 (.tup [])
 have hv0:=hv.sb t0
 have hs0:=t0.sqT hs
 have hw':Whs K (upd H e0 (.tup [])) xs os:=Whs.sb t0 hw
 generalize hH0:upd H e0 (.tup [])=H0 at t0 hv0 hs0 hw'
 refine ⟨_,rfl,_,rfl,a,rfl,⟨xs,hs0⟩,?_⟩
 refine for_tup (K:=K) (a:=a) (xs:=xs) (fun i σ H2=>H2=H0/\∃ (tv rv:V) (t:Tr) (o4:Option V),σ=[some v,some (.ref a),some tv,some rv,o4]/\lk ("",g) (os.take i)=some t/\GA K H0 rv t.2/\(i=0\/Dp K H0 tv (Gr.tEnc t)))
  ⟨rfl,_,_,("",g),none,rfl,rfl,hv0,.inl rfl⟩ (fun i σ H2 hi h2=>by rw [h2.1]; exact hs0) (fun i x σ H2 hx h2=>?_) (fun σ H2 h2=>?_)
 ·obtain ⟨rfl,tv,rv,t,o4,rfl,hlk,hrv,_⟩:=h2
  obtain ⟨o,eo,hwx⟩:=hw'.get hx
  have bad:stp t.2 o=none->E (.ref C) none H2:=fun z=>qE (.inr (zg2 hlk eo z)) _ t0
  rcases hwx with ⟨n,rfl,rfl⟩ | ⟨rfl,n,b1,b2,ty,k1,k2,k3⟩
  ·refine ⟨_,rfl,_,"int",true,false,rfl,.base (.int n),by decide +kernel,fun _=>by decide +kernel,true,rfl,iteF ?_⟩
   obtain ⟨c,ys,rfl,hsc,hbc⟩:=z0g hrv
   have yl:=hbc.length
   refine ⟨_,rfl,_,_,rfl,rfl,_,rfl,?_⟩
   by_cases h0:0<=n
   ·rw [decide_eq_true h0]
    refine iteT ⟨_,rfl,c,ys,rfl,.inr hsc,_,_,rfl,rfl,_,rfl,?_⟩
    obtain ⟨m,rfl⟩:∃ m:Nat,n=(m:Int):=⟨n.toNat,by omega⟩
    by_cases h1:m < ys.length
    ·rw [show decide ((m:Int) < (ys.length:Nat))=true from decide_eq_true (by omega)]
     refine iteF ?_
     obtain ⟨y,hy⟩:∃ y,ys[m]?=some y:=⟨_,List.getElem?_eq_getElem h1⟩
     obtain ⟨p,ep,hpd⟩:=hbc.get hy
     obtain ⟨ad,bd,ux,rfl,hsx,hst,hdx,hdt⟩:=z0h hpd
     refine ⟨_,rfl,_,rfl,c,ys,_,_,rfl,rfl,hsc,atI_nat hy,ad,_,_,_,rfl,rfl,hsx,atI_nat (j:=0) rfl,?_⟩
     refine ⟨_,rfl,bd,_,_,_,rfl,rfl,hst,atI_nat (j:=1) rfl,?_⟩
     have es:stp t.2 (some (m:Int))=some p.1:=by
      show (if 0<=(m:Int) then (t.2.ps[(m:Int).toNat]?).map (·.1) else none)=_
      rw [if_pos h0,Int.toNat_natCast,ep]; rfl
     exact ⟨rfl,_,_,p.1,_,rfl,zg4 hlk eo es,hdx,.inr hdt⟩
    ·rw [show decide ((m:Int) < (ys.length:Nat))=false from decide_eq_false (by omega)]
     refine iteT (bad ?_)
     show (if 0<=(m:Int) then (t.2.ps[(m:Int).toNat]?).map (·.1) else none)=_
     rw [if_pos h0,Int.toNat_natCast,List.getElem?_eq_none (by omega)]; rfl
   ·rw [decide_eq_false h0]
    refine iteF ⟨_,rfl,iteT (bad ?_)⟩
    show (if 0<=n then (t.2.ps[n.toNat]?).map (·.1) else none)=_
    rw [if_neg h0]
  ·refine ⟨_,rfl,_,n,b1,b2,rfl,ty,k1,k2,_,rfl,?_⟩
   rw [k3]
   exact iteT (iteT (bad rfl))
 ·obtain ⟨rfl,tv,rv,t,o4,rfl,hlk,hrv,h3⟩:=h2
  rw [wl,List.take_length] at hlk
  refine ⟨_,rfl,q t hnil hlk _ _ t0 ?_⟩
  rcases h3 with h3 | h3
  ·exact absurd (List.length_eq_zero_iff.mp h3) x1
  ·exact h3
abbrev zdp:List Str:=["grove","tree","pair"]
theorem sc_q46:FnScope zdp ["grove","tree"] (defScope z3k):=⟨rfl,rfl,rfl,by decide +kernel,rfl,by decide +kernel,by decide +kernel⟩
theorem zgo (B:BI mg) (F:Fun K "number_of" "number_of" z3k f fd):FnOk P w K mg base CX0 (1) f fd ["grove","tree"] (z7h K):=by
 refine F.ok sc_q46 (fun vs H Q E h=>?_) (fun cdv A outer s H vs Q E hr h=>?_)
 ·obtain ⟨v,u,g,t,m,rfl,_⟩:=h
  rfl
 obtain ⟨v,u,g,t,m,rfl,hv,hu,⟨C,go⟩,gd,gl,tm,q⟩:=h
 have hun2:=hunT hr
 refine ⟨_,pss_one (ps_ret (pe_bm PySem.F.plainAttrs_list PySem.F.slot_list_index PySem.F.type_list_index (zbl (by show A.units+3+196 < cLine; omega)) (pe_lc (own:=[("pair",2)]) (g:=(gName 2)) (tt:=tYes) (te:=(tOp (rIxT K) (tVar 2) (tC (.int 0)))) rfl sc_q46.nd (pi_tup (pv 0)) (blkOk_by (N:=zdp) (sc:=defScope z3k) (by decide +kernel)) (fun _ _ _ _ _=>(pg_name (i:=2) sc_q46.nd rfl (.inl rfl))) (fun _ _ _ _ _=>pts_nil) (fun _ _ _ _ _=>(pe_ix ix_tup (pv 2) pe_int (fun _ _=>rfl)))) (pa_cons (pv 1) pa_nil))),?_⟩
 have szl:=sizeLine_eq
 obtain ⟨a,xs,rfl,hs,hb⟩:=z0g hv
 have xl:=hb.length
 obtain ⟨n1,o1,_,_⟩:=Gr.ok_mem go tm
 have td:t.2.deep < g.deep:=g.mem_deep (t,m) tm
 have hpos:=Gr.pos_at go tm
 refine ⟨_,rfl,a,rfl,⟨xs,hs⟩,fun D nD=>?_⟩
 refine za0 (walk_tup (xs:=xs)) [] nD (by simp) (by omega) (fun i us H2=>Bears K H2 Gr.tEnc us ((g.ps.take i).map fun p:Tr × Int=>p.1)) .nil (fun H2 s2=>s2.sqT hs) (fun i us H2 H3 s3 h=>h.sb s3 Gr.noList_tEnc) (fun Pv i x Hq H2 us hi s2 y hR hu hD2 fin _=>?_) (fun us H2 s2 hD2 hR hul=>?_)
 ·obtain ⟨rfl,ey⟩:=y
  obtain ⟨p,ep,hpd⟩:=hb.get ey
  obtain ⟨ad,bd,ux,rfl,h1,h2,h3,h4⟩:=z0h hpd
  refine ⟨rfl,_,rfl,ad,_,_,_,rfl,rfl,s2.sqT h1,atI_nat (j:=0) rfl,fin _ _ SB.refl ?_⟩
  rw [List.take_add_one,ep,List.map_append]
  exact hR.append (.cons (z07 s2 _ _ (Gr.noList_tEnc _) h4) .nil)
 ·rw [xl,List.take_length] at hR
  have hds:DpAll K H2 us ((g.ps.map fun p:Tr × Int=>p.1).map Gr.tEnc):=z6m hR
  have e:∀ i:Nat,((g.ps.map fun p:Tr × Int=>p.1).map Gr.tEnc)[i]?=(g.ps[i]?).map fun p=>Gr.tEnc p.1:=fun i=>by rw [List.getElem?_map,List.getElem?_map,Option.map_map]; rfl
  refine ⟨.inl ⟨rfl,_,SqL.of hD2⟩,_,rfl,D,_,Gr.tEnc t,_,Gr.pos g t,Gr.tEnc t,rfl,rfl,.lst (SqL.of hD2) hds,z07 s2 _ _ (Gr.noList_tEnc _) hu,?_,Gr.wd_t n1 o1 (by omega),?_,?_,fun j z' hj hz=>?_,q _ s2⟩
  ·rw [List.map_map]
   exact Gr.lay_ts fun p hp=>by obtain ⟨h1,h2,_⟩:=Gr.ok_mem go hp; exact ⟨h1,h2⟩
  ·rw [e,hpos]; rfl
  ·rw [Gr.t_eqv]; simp
  ·rw [e] at hz
   obtain ⟨p,ep,rfl⟩:=Option.map_eq_some_iff.mp hz
   rw [Gr.t_eqv]
   refine decide_eq_false fun z=>?_
   have:=Gr.pos_of go ep
   rw [z] at this
   omega
abbrev zbm:List Str:=["grove","found","at","pair","held","place"]
theorem sc_q19:FnScope zbm ["grove"] (defScope z46):=⟨rfl,rfl,rfl,by decide +kernel,rfl,by decide +kernel,by decide +kernel⟩
theorem zh9 {n:Nat} (B:BI mg) (G:Got P w K mg base "bare_places" ["grove"] n (z2g K n)) (F:Fun K "bare_places" "bare_places" z46 f fd):FnOk P w K mg base CX0 (n+1) f fd ["grove"] (z2g K (n+1)):=by
 refine F.ok sc_q19 (fun vs H Q E h=>?_) (fun cdv A outer s H vs Q E hr h=>?_)
 ·obtain ⟨v,g,rfl,_⟩:=h
  rfl
 obtain ⟨v,g,rfl,hg,hd,hd2,hp,q⟩:=h
 refine ⟨_,pss_cons (ps_set (i:=1) sc_q19.nd rfl (.inl rfl) (pe_lst pa_nil))
  (pss_cons (ps_for PassesOwn.never rfl (zcl rfl B.enumerate (pv 0)) (pg_tup rfl (pgs_cons (pg_name (i:=2) sc_q19.nd rfl (.inr rfl)) (pgs_cons (pg_name (i:=3) sc_q19.nd rfl (.inl rfl)) pgs_nil)))
   (pss_cons (ps_set (i:=4) sc_q19.nd rfl (.inl rfl) (pe_ix ix_tup (pe_ix ix_tup (pv 3) pe_int (fun _ _=>rfl)) pe_int (fun _ _=>rfl)))
   (pss_one (ps_if (pt_truth (pv 4) (by intro _; rfl))
    (pss_one (ps_expr (pe_bm PySem.F.plainAttrs_list PySem.F.slot_list_extend PySem.F.type_list_extend mt_extend (pv 1) (pa_cons
     (pe_lc (own:=[("place",5)]) (g:=gName 5) (tt:=tYes) (te:=tOp (zdc K) (tTup (tCons (tVar 2) tNil)) (tVar 5)) rfl sc_q19.nd (pi_list (z00 G hr rfl (pa_cons (pv 4) pa_nil)))
      (blkOk_by (N:=zbm) (sc:=defScope z46) (by decide +kernel))
      (fun _ _ _ _ _=>pg_name (i:=5) sc_q19.nd rfl (.inl rfl)) (fun _ _ _ _ _=>pts_nil)
      (fun _ _ _ _ _=>pe_op z73 (pe_tup (pa_cons (pv 2) pa_nil)) (pv 5))) pa_nil))))
    (pss_one (ps_expr (pe_bm PySem.F.plainAttrs_list PySem.F.slot_list_append PySem.F.type_list_append mt_append (pv 1) (pa_cons (pe_tup (pa_cons (pv 2) pa_nil)) pa_nil))))))))
  (pss_one (ps_ret (pv 1)))),?_⟩
 obtain ⟨a,xs,rfl,hs,hb⟩:=z0g hg
 have bl:=hb.length
 have lenb:=g.bp_len 0
 refine ⟨(by show 0<=sizeLine; decide),fun D hD=>?_⟩
 refine ⟨_,rfl,a,xs,rfl,(SB.new (ps:=[]) hD _).sqT hs,?_⟩
 refine for_it (zad (xs:=xs)) (fun i σ H2=>SB [D] H H2/\∃ us o2 o3 o4,σ=[some (.ref a),some (.ref D),o2,o3,o4,none]/\H2 D=some (.lst us)/\Bears K H2 z0u us (Gr.bps (g.ps.take i) 0)) ⟨SB.new hD _,[],none,none,none,rfl,upd_same,.nil⟩ (fun i σ H2 hi h2=>(h2.1.drop hD).sqT hs) (fun i x σ H2 H' hi h2 y=>?_) (fun σ H2 h2=>?_)
 ·obtain ⟨s2,us,o2,o3,o4,rfl,hD2,hb2⟩:=h2
  obtain ⟨T,e1,e2,rfl,hT,rfl,ee1,ee2⟩:=y
  have he1:e1=.int (i:Nat):=(Option.some.inj ee1).symm
  subst he1
  obtain ⟨p,ep,hpd⟩:=hb.get ee2
  have pm:=List.mem_of_getElem? ep
  obtain ⟨ad,td,ux,rfl,hs2,hs3,hga,_⟩:=z0h hpd
  have t3:=SB.new (ps:=[D]) hT (.tup [.int (i:Nat),.ref ad])
  have hD3:(upd H2 T (.tup [.int (i:Nat),.ref ad])) D=some (.lst us):=by rw [upd_ne (ne_of_none hD2 hT)]; exact hD2
  have hT3:SqT K (upd H2 T (.tup [.int (i:Nat),.ref ad])) T [.int (i:Nat),.ref ad]:=SqT.of upd_same
  have s3:=s2.trans t3
  have hb3:=hb2.sb t3 z0c
  generalize hH3:upd H2 T (.tup [.int (i:Nat),.ref ad])=H3 at t3 hD3 hT3 s3 hb3
  have s3':=s3.drop hD
  have ul:=hb3.length
  have pd:=g.mem_deep p pm
  have pp:=g.mem_parts p pm
  have hsp:g.bp 0=Gr.bps (g.ps.take i) 0++Gr.bpP p i++Gr.bps (g.ps.drop (i+1)) (i+1):=by
   rw [Gr.bp_ps]
   conv=>lhs; rw [<- List.take_append_drop (i+1) g.ps]
   rw [Gr.bps_append,Gr.bps_take ep,List.length_take,Nat.min_eq_left (by omega),Nat.zero_add]
  have hlen:=congrArg List.length hsp
  rw [List.length_append,List.length_append] at hlen
  refine ⟨T,_,rfl,hT3,rfl,_,_,rfl,_,_,rfl,rfl,?_⟩
  refine ⟨_,rfl,ad,_,_,_,rfl,rfl,s3'.sqT hs2,atI_nat (j:=0) rfl,td,_,_,_,rfl,rfl,s3'.sqT hs3,atI_nat (j:=1) rfl,?_⟩
  obtain ⟨b,ys,rfl,hsb,hbb⟩:=z0g hga
  have yl:=hbb.length
  refine ⟨_,rfl,_,.inr (.inl ⟨ys,s3'.sqT hsb,rfl⟩),?_⟩
  by_cases hnil:p.1.2=.nil
  ·have ys0:ys=[]:=by
    rw [hnil] at yl
    exact List.length_eq_zero_iff.mp yl
   rw [ys0]
   refine iteF ?_
   have hbP:Gr.bpP p i=[[i]]:=if_pos hnil
   refine ⟨_,rfl,.inl ⟨rfl,_,SqL.of hD3⟩,_,rfl,(by show 1<=sizeLine; decide),fun t ht=>?_⟩
   have t4:=SB.new (ps:=[D]) ht (.tup [.int (i:Nat)])
   have hD4:(upd H3 t (.tup [.int (i:Nat)])) D=some (.lst us):=by rw [upd_ne (ne_of_none hD3 ht)]; exact hD3
   refine ⟨D,us,_,rfl,rfl,hD4,small1000 (by omega),?_⟩
   have t5:=SB.set (ps:=[D]) hD4 (by simp) (.lst (us++[.ref t]))
   refine ⟨(s3.trans t4).trans t5,_,_,_,_,rfl,upd_same,?_⟩
   rw [Gr.bps_take ep,hbP]
   exact Bears.append ((hb3.sb t4 z0c).sb t5 z0c) (.cons (z82 (p:=[i]) (t5.sqT (SqT.of upd_same))) .nil)
  ·have ys1:ys ≠ []:=fun z=>by
    rw [z] at yl
    cases hq:p.1.2 with
    | nil=>exact hnil hq
    | cons k g m r=>rw [hq] at yl; simp [Gr.ps] at yl
   have hie:(!ys.isEmpty)=true:=by cases ys with
    | nil=>exact absurd rfl ys1
    | cons _ _=>rfl
   rw [hie]
   refine iteT ?_
   have hbP:Gr.bpP p i=(p.1.2.bp 0).map (i::·):=if_neg hnil
   refine ⟨_,rfl,.inl ⟨rfl,_,SqL.of hD3⟩,_,rfl,.ref b,p.1.2,rfl,hga.sb s3',by omega,by omega,by omega,fun D2 vs2 H4 s4 hDn hD4 hb4=>?_⟩
   have hD3':=s4.keep _ _ hD3 nmn
   have s24:=s3.trans s4.nil
   have vl:=hb4.length
   refine ⟨D2,rfl,⟨_,SqL.of hD4⟩,fun L hL=>?_⟩
   have DL:D ≠ L:=ne_of_none hD3' hL
   have D2L:D2 ≠ L:=ne_of_none hD4 hL
   refine lc_it (walk_list (xs:=vs2)) (fun j H5=>SB [L] H4 H5/\∃ ws,H5 L=some (.lst ws)/\Bears K H5 z0u ws (((p.1.2.bp 0).take j).map (i::·))) ⟨SB.new hL _,[],upd_same,.nil⟩ (fun j H5 hj h5=>h5.1.sqL (by simpa using D2L) (SqL.of hD4)) (fun j z H5 H6 hj h5 hz=>?_) (fun H5 h5=>?_)
   ·obtain ⟨s5,ws,hL5,hb5⟩:=h5
    obtain ⟨rfl,ez⟩:=hz
    obtain ⟨pl,epl,hpl⟩:=hb4.get ez
    obtain ⟨pa,rfl,hpa⟩:=z2c hpl
    have plong:=p.1.2.bp_long 0 pl (List.mem_of_getElem? epl)
    have pbl:=p.1.2.bp_len 0
    have wl:=hb5.length
    rw [List.length_map,List.length_take] at wl
    have s5':=s5.drop hL
    refine ⟨rfl,?_⟩
    refine ⟨_,rfl,(by show 1<=sizeLine; decide),fun t ht=>?_⟩
    have t6:=SB.new (ps:=[L]) ht (.tup [.int (i:Nat)])
    have hL6:(upd H6 t (.tup [.int (i:Nat)])) L=some (.lst ws):=by rw [upd_ne (ne_of_none hL5 ht)]; exact hL5
    have hsx:SqT K (upd H6 t (.tup [.int (i:Nat)])) pa (pl.map fun n:Nat=>V.int (n:Int)):=t6.sqT (s5'.sqT hpa)
    refine ⟨_,rfl,t,pa,_,_,rfl,rfl,SqT.of upd_same,hsx,?_,fun c H7 s7 hc=>?_⟩
    ·rw [List.length_map,List.length_singleton]
     have:=z38 (n:=1+pl.length) (by omega)
     omega
    have hL7:=s7.keep _ _ hL6 nmn
    refine ⟨ws,hL7,small1000 (by omega),?_⟩
    have t8:=SB.set (ps:=[L]) hL7 (by simp) (.lst (ws++[.ref c]))
    refine ⟨((s5.trans t6).trans s7.nil).trans t8,_,upd_same,?_⟩
    rw [List.take_add_one,epl,Option.toList_some,List.map_append]
    exact Bears.append (((hb5.sb t6 z0c).sb s7 z0c).sb t8 z0c) (.cons (z82 (p:=i::pl) (t8.sqT hc)) .nil)
   ·obtain ⟨s5,ws,hL5,hb5⟩:=h5
    rw [vl,List.take_length,<- hbP] at hb5
    have wl:=hb5.length
    have hD5:=s5.keep _ _ hD3' (by simpa using DL)
    refine ⟨D,L,_,_,rfl,rfl,hD5,hL5,?_,?_⟩
    ·have:=z38 (n:=us.length+ws.length) (by omega)
     omega
    have t6:=SB.set (ps:=[D]) hD5 (by simp) (.lst (us++ws))
    refine ⟨s24.trans ((s5.drop hL).nil.trans t6),_,_,_,_,rfl,upd_same,?_⟩
    rw [Gr.bps_take ep]
    exact Bears.append (((hb3.sb s4 z0c).sb s5 z0c).sb t6 z0c) (hb5.sb t6 z0c)
 ·obtain ⟨s2,us,o2,o3,o4,rfl,hD2,hb2⟩:=h2
  rw [bl,List.take_length,<- Gr.bp_ps] at hb2
  exact ⟨_,rfl,q D us H2 (s2.drop hD) hD hD2 hb2⟩
abbrev zdz:List Str:=["book","grove","bound","many","name"]
theorem sc_q31:FnScope zdz ["book","grove","bound"] (defScope z3y):=⟨rfl,rfl,rfl,by decide +kernel,rfl,by decide +kernel,by decide +kernel⟩
theorem zg9 {C_Book C_TooLong:Addr} (B:BI mg) (G_q23:GotX P w K mg base "check_kinds" ["book","grove"] (72) (z1p K C_Book)) (G_q27:Got P w K mg base "count_in" ["book","counts","grove","bound"] (45) (z2e K C_Book 20)) (G_q1:GotM P w K mg base C_Book "names" ["self"] (1) (z3c K C_Book)) (G_q24:GotX P w K mg base "check_long" ["many"] (1) (z4s C_TooLong)) (F:Fun K "fewest_falls" "fewest_falls" z3y f fd):FnOk P w K mg base (L2.CX P w) (75) f fd ["book","grove","bound"] (z2o K C_Book C_TooLong):=by
 refine F.okX sc_q31 (fun vs H Q E h=>?_) (fun cdv A outer s H vs Q E hr h=>?_)
 ·obtain ⟨v,w,b,g,D,C,rfl,_⟩:=h
  rfl
 obtain ⟨v,w,b,g,D,C,rfl,hv,ok,hg,go,hC,hd,hp,hk,hD,q0,q1⟩:=h
 have hun2:=hunT hr
 refine ⟨_,pss_cons (ps_expr (z0n G_q23 (hr.mono (by omega)) rfl (takes_of rfl rfl rfl rfl) (pa_cons (pv 0) (pa_cons (pv 1) pa_nil))))
  (pss_cons (ps_set (i:=3) sc_q31.nd rfl (.inl rfl) (z00 G_q27 (hr.mono (by omega)) rfl (pa_cons (pv 0) (pa_cons (pe_dc (own:=[("name",4)]) (g:=(gName 4)) (tt:=tYes) (tk:=(tVar 4)) (tv:=(tC (.int 1))) rfl sc_q31.nd (pi_list (z8t G_q1 (hr.mono (by omega)) (pv 0))) (blkOk_by (N:=zdz) (sc:=defScope z3y) (by decide +kernel)) (fun _ _ _ _ _=>(pg_name (i:=4) sc_q31.nd rfl (.inl rfl))) (fun _ _ _ _ _=>pts_nil) (fun _ _ _ _ _=>(pv 4)) (fun _ _ _ _ _=>pe_int)) (pa_cons (pv 1) (pa_cons (pv 2) pa_nil))))))
  (pss_cons (ps_expr (z0n G_q24 (hr.mono (by omega)) rfl (takes_of rfl rfl rfl rfl) (pa_cons (pv 3) pa_nil)))
  (pss_one (ps_ret (pv 3))))),?_⟩
 have b8:=ok.len
 refine ⟨_,rfl,_,rfl,v,w,b,g,rfl,hv,hg,by omega,by omega,by omega,hk,fun H1 s1=>?_⟩
 refine ⟨_,rfl,?_⟩
 obtain ⟨va,vdx,vd1,vd2,rfl,hva⟩:=(hv.sb0 s1).at
 have szl:=sizeLine_eq
 have nml:b.names.length=b.length:=List.length_map ..
 refine ⟨_,rfl,va,vdx,_,rfl,hva,rfl,?_⟩
 refine ⟨_,b,rfl,hv.sb0 s1,by omega,fun nl H2 s2 nn hn=>?_⟩
 refine ⟨nl,rfl,⟨_,SqL.of hn⟩,fun DD nD=>?_⟩
 refine z8v (walk_list (xs:=b.names.map V.str)) nD (by rw [List.length_map]; omega) (fun i kvs H3=>kvs=(b.names.take i).map fun n=>((Sum.inr n:Key),V.int 1)) rfl (fun H3 s3=>s3.sqL nmn (SqL.of hn)) (fun i kvs H3 H4 s4 h=>h) (fun Pv i x Hq H3 kvs hi s3 y hR hl fin _=>?_) (fun kvs H3 s3 hD3 hR hl=>?_)
 ·obtain ⟨rfl,ey⟩:=y
  rw [List.getElem?_map] at ey
  obtain ⟨n,en,rfl⟩:=Option.map_eq_some_iff.mp ey
  refine ⟨rfl,_,rfl,fin (Sum.inr n) (.int 1) _ SB.refl ?_⟩
  subst hR
  rw [z1j,List.take_add_one,en,List.map_append]
  ·rfl
  ·intro p hp z
   obtain ⟨m,hm,rfl⟩:=List.mem_map.mp hp
   obtain ⟨j,hj,ej⟩:=List.getElem_of_mem hm
   rw [List.getElem_take] at ej
   rw [List.length_take] at hj
   obtain ⟨hi2,e2⟩:=List.getElem_of_getElem? en
   exact List.pairwise_iff_getElem.mp ok.nd j i (by omega) hi2 (by omega) (ej.trans ((Sum.inr.inj z).trans e2.symm))
 rw [List.length_map,List.take_length] at hR
 subst hR
 have s02:=(s1.trans s2).trans s3
 have hcd:CntD H3 DD (fun _=>1) b.names:=hD3
 refine ⟨_,rfl,_,rfl,_,w,DD,b,fun _=>1,b.names,g,D,C,rfl,hv.sb0 s02,by omega,hcd,hg.sb s02,go,hC,hd,by omega,fun x hx=>⟨hk x hx,hk x hx⟩,fun _=>(by show (0:Int)<=1; decide),hD,fun H4 s4=>?_⟩
 refine z09 ?_
 have s04:=s02.trans s4
 exact ⟨_,rfl,_,rfl,fun hlt H5 s5=>⟨_,rfl,q0 hlt _ (s04.trans s5)⟩,fun hge H5 s5=>q1 hge _ (s04.trans s5)⟩
abbrev zjk:List Str:=["book","grove","bound"]
theorem zgd:FnScope zjk ["book","grove","bound"] (defScope z5k):=⟨rfl,rfl,rfl,by decide +kernel,rfl,by decide +kernel,by decide +kernel⟩
theorem zg6 {C_NoPlace C_Book C_TooLong:Addr} (B:BI mg) (O_NoPlace:Own K mg "NoPlace" C_NoPlace) (G_q31:GotX P w K mg base "fewest_falls" ["book","grove","bound"] (75) (z2o K C_Book C_TooLong)) (G_q19:Got P w K mg base "bare_places" ["grove"] (20) (z2g K 20)) (F:Fun K "short_fall" "short_fall" z5k f fd):FnOk P w K mg base (L2.CX P w) (77) f fd ["book","grove","bound"] (z4k K C_Book C_NoPlace C_TooLong):=by
 refine F.okX zgd (fun vs H Q E h=>?_) (fun cdv A outer s H vs Q E hr h=>?_)
 ·obtain ⟨v,w,b,g,D,C,rfl,_⟩:=h
  rfl
 obtain ⟨v,w,b,g,D,C,rfl,hv,ok,hg,go,hC,hd,hp,hk,hD,qT,qN,q⟩:=h
 have hun2:=hunT hr
 refine ⟨_,pss_cons (ps_expr (z0n G_q31 (hr.mono (by omega)) rfl (takes_of rfl rfl rfl rfl) (pa_cons (pv 0) (pa_cons (pv 1) (pa_cons (pv 2) pa_nil)))))
  (pss_cons (ps_if (pt_not (pt_truth (pv 1) (by intro _; rfl))) (pss_one (ps_raise rfl (takes_of rfl rfl rfl rfl) (pmk_own PySem.F.excBase_ValueError O_NoPlace.q O_NoPlace.gC O_NoPlace.k (raises_own O_NoPlace.s O_NoPlace.t) rfl))) pss_nil)
  (pss_one (ps_ret (pe_tup (pa_cons (pe_ix ix_list (z00 G_q19 (hr.mono (by omega)) rfl (pa_cons (pv 1) pa_nil)) pe_int (fun _ _=>rfl)) (pa_cons pe_int pa_nil)))))),?_⟩
 have szl:=sizeLine_eq
 have b8:=ok.len
 refine ⟨_,rfl,_,rfl,_,rfl,v,w,b,g,D,C,rfl,hv,ok,hg,go,hC,hd,by omega,hk,hD,fun hlt H1 s1=>?_,fun hge H1 s1=>qT hge _ s1⟩
 obtain ⟨ga,gs,rfl,hga,hgb⟩:=z0g (GA.sb hg s1)
 have gsl:=hgb.length
 cases hgs:gs with
 | nil =>
  subst hgs
  refine ⟨_,rfl,false,.inr (.inl ⟨[],hga,rfl⟩),iteT (qN hlt ?_ _ s1)⟩
  cases g with
  | nil=>rfl
  | cons k' g' m' r'=>simp [Gr.ps] at gsl
 | cons z zs =>
  have gne:g ≠ .nil:=fun z'=>by rw [z',hgs] at gsl; simp [Gr.ps] at gsl
  refine ⟨_,rfl,true,.inr (.inl ⟨gs,hga,by rw [hgs]; rfl⟩),iteF ?_⟩
  refine ⟨_,rfl,.ref ga,g,rfl,GA.sb hg s1,hd,by omega,by omega,fun M us H2 s2 nM hM hbp=>?_⟩
  have s12:=s1.trans s2
  have bne:g.bp 0 ≠ []:=fun z=>by have:=Gr.bp_some go gne; rw [z] at this; simp at this
  obtain ⟨pl,epl⟩:∃ pl,(g.bp 0)[0]?=some pl:=by
   cases e:g.bp 0 with
   | nil=>exact absurd e bne
   | cons a r=>exact ⟨a,rfl⟩
  have ul:=hbp.length
  have ulp:0 < us.length:=by have:=(List.getElem?_eq_some_iff.mp epl).1; omega
  obtain ⟨pv,u0⟩:∃ pv,us[0]?=some pv:=⟨us[0],List.getElem?_eq_getElem ulp⟩
  obtain ⟨pl',epl',hpl⟩:=hbp.get u0
  have:=Option.some.inj (epl'.symm.trans epl)
  subst this
  refine ⟨M,_,_,_,rfl,rfl,SqL.of hM,atI_nat (j:=0) u0,?_⟩
  rw [<- Gr.bk_bp,List.getElem?_map] at epl'
  obtain ⟨x,ex,rfl⟩:=Option.map_eq_some_iff.mp epl'
  have xm:=List.mem_of_getElem? ex
  have hbare:=Gr.bk_bare _ (Nat.le_refl _) xm
  refine ⟨by show 2<=sizeLine; decide,fun T nT=>?_⟩
  have t6:=SB.new (ps:=[]) nT (.tup [pv,.int 0])
  refine q hlt x.1 x.2 epl xm hbare T _ (s12.trans t6) ?_
  exact Dp.tup (SqT.of upd_same) (.cons (z07 t6 _ _ (z0c _) hpl) (.cons (.int _) .nil))
abbrev zin:List Str:=["book","grove","place","rule","number","kind","held","told","left","changed"]
theorem sc_q30:FnScope zin ["book","grove","place","rule","number"] (defScope z5i):=⟨rfl,rfl,rfl,by decide +kernel,rfl,by decide +kernel,by decide +kernel⟩
theorem zhd {C_NoPlace C_Book C_NoRule C_NoNumber C_TooGreat:Addr} (B:BI mg) (O_NoPlace:Own K mg "NoPlace" C_NoPlace) (G_q23:GotX P w K mg base "check_kinds" ["book","grove"] (72) (z1p K C_Book)) (G_q57:GotX P w K mg base "tree_at" ["grove","place"] (2) (z44 K C_NoPlace)) (G_q49:GotX P w K mg base "rule_at" ["book","kind","rule"] (6) (z6c K C_Book C_NoRule)) (G_q25:GotX P w K mg base "check_number" ["thing"] (2) (z6i K C_NoNumber)) (G_q54:Got P w K mg base "struck" ["book","grove","place","fresh","number"] (70) (z1y K C_Book 64)) (G_q33:Got P w K mg base "grown" ["rule","number"] (3) (z72 K)) (G_q21:GotX P w K mg base "check_bound" ["grove"] (72) (z43 K C_TooGreat)) (F:Fun K "fallen" "fallen" z5i f fd):FnOk P w K mg base (L2.CX P w) (74) f fd ["book","grove","place","rule","number"] (z2k K C_Book C_NoPlace C_NoRule C_NoNumber C_TooGreat):=by
 refine F.okX sc_q30 (fun vs H Q E h=>?_) (fun cdv A outer s H vs Q E hr h=>?_)
 ·obtain ⟨v,w,x,y,a,b,g,D,xs,os,ro,so,rfl,_⟩:=h
  rfl
 obtain ⟨v,w,x,y,a,b,g,D,xs,os,ro,so,rfl,⟨hv,ok⟩,⟨hw,go,gd,gp,gn⟩,⟨ha,hos⟩,hx,hy,sb,qP,q⟩:=h
 have hun2:=hunT hr
 refine ⟨_,pss_cons (ps_expr (z0n G_q23 (hr.mono (by omega)) rfl (takes_of rfl rfl rfl rfl) (pa_cons (pv 0) (pa_cons (pv 1) pa_nil))))
  (pss_cons (ps_asg (z0n G_q57 (hr.mono (by omega)) rfl (takes_of rfl rfl rfl rfl) (pa_cons (pv 1) (pa_cons (pv 2) pa_nil))) (pg_tup rfl (pgs_cons (pg_name (i:=5) sc_q30.nd rfl (.inl rfl)) (pgs_cons (pg_name (i:=6) sc_q30.nd rfl (.inl rfl)) pgs_nil))))
  (pss_cons (ps_if (pt_truth (pv 6) (by intro _; rfl)) (pss_one (ps_raise rfl (takes_of rfl rfl rfl rfl) (pmk_own PySem.F.excBase_ValueError O_NoPlace.q O_NoPlace.gC O_NoPlace.k (raises_own O_NoPlace.s O_NoPlace.t) rfl))) pss_nil)
  (pss_cons (ps_set (i:=7) sc_q30.nd rfl (.inl rfl) (z0n G_q49 (hr.mono (by omega)) rfl (takes_of rfl rfl rfl rfl) (pa_cons (pv 0) (pa_cons (pv 5) (pa_cons (pv 3) pa_nil)))))
  (pss_cons (ps_expr (z0n G_q25 (hr.mono (by omega)) rfl (takes_of rfl rfl rfl rfl) (pa_cons (pv 4) pa_nil)))
  (pss_cons (ps_asg (z00 G_q54 (hr.mono (by omega)) rfl (pa_cons (pv 0) (pa_cons (pv 1) (pa_cons (pv 2) (pa_cons (z00 G_q33 (hr.mono (by omega)) rfl (pa_cons (pv 7) (pa_cons (pv 4) pa_nil))) (pa_cons (pv 4) pa_nil)))))) (pg_tup rfl (pgs_cons (pg_name (i:=8) sc_q30.nd rfl (.inl rfl)) (pgs_cons (pg_name (i:=9) sc_q30.nd rfl (.inl rfl)) pgs_nil))))
  (pss_cons (ps_expr (z0n G_q21 (hr.mono (by omega)) rfl (takes_of rfl rfl rfl rfl) (pa_cons (pv 8) pa_nil)))
  (pss_one (ps_ret (pe_tup (pa_cons (pv 8) (pa_cons (pv 9) pa_nil))))))))))),?_⟩
 have szl:=sizeLine_eq
 have b8:=ok.len
 refine ⟨_,rfl,_,rfl,v,w,b,g,rfl,hv,hw,by omega,by omega,by omega,gn,fun H1 s1=>?_⟩
 have xsl:=hos.length
 refine ⟨_,rfl,_,rfl,w,g,a,xs,os,rfl,hw.sb s1,s1.sqT ha,hos.sb s1,fun t hne hlk vt H2 s2 ht=>?_,fun hbad H2 s2=>qP (fun pl k e hb=>?_) _ (s1.trans s2)⟩
 case refine_2 =>
  have h1:=Gr.bare_lk "" hb
  rw [<- e] at h1
  rcases hbad with h | h
  ·rw [e] at h
   exact Gr.bare_ne hb (by simpa [plO] using h)
  ·rw [h] at h1; cases h1
 obtain ⟨pl,epl,hbare⟩:=Gr.lk_bare hne hlk
 cases (ht:Dp K H2 vt (.tuple [.str t.1,t.2.enc])) with
 | @tup ad us' _ hs' hda =>
 cases hda with
 | cons g1 hda =>
 cases hda with
 | cons g2 hda =>
 cases hda
 cases g1
 rename_i hd
 have hheld:GA K H2 hd t.2:=g2
 obtain ⟨ga,gs,rfl,hga,hgb⟩:=z0g hheld
 have gsl:=hgb.length
 have s12:=s1.trans s2
 refine ⟨ad,_,rfl,hs',rfl,_,_,rfl,_,_,rfl,rfl,?_⟩
 by_cases hnil:t.2=.nil
 case neg =>
  have hgs:gs ≠ []:=fun z=>by
   rw [z] at gsl
   cases e:t.2 with
   | nil=>exact hnil e
   | cons _ _ _ _=>rw [e] at gsl; simp [Gr.ps] at gsl
  refine ⟨_,rfl,true,.inr (.inl ⟨gs,hga,by cases gs with | nil=>exact absurd rfl hgs | cons _ _=>rfl⟩),iteT (qP (fun pl' k e hb=>?_) _ s12)⟩
  have h1:=Gr.bare_lk "" hb
  rw [<- e,hlk] at h1
  exact hnil (by rw [Option.some.inj h1])
 have hb:=hbare hnil
 have hgs:gs=[]:=by
  rw [hnil] at gsl
  exact List.length_eq_zero_iff.mp gsl
 subst hgs
 refine ⟨_,rfl,false,.inr (.inl ⟨[],hga,rfl⟩),iteF ?_⟩
 have kn:=Gr.bare_named gn hb
 obtain ⟨kd,eg⟩:=Bk.get_of kn
 obtain ⟨km,_⟩:=Bk.get_some eg
 obtain ⟨_,r4,rr⟩:=ok.kd kd km
 obtain ⟨q1,q2⟩:=q pl t.1 kd epl hb eg
 refine ⟨_,rfl,_,rfl,_,rfl,v,x,b,t.1,kd,ro,rfl,hv.sb0 s12,ok,eg,hx.sb s12,fun i r er hr yv H3 s3 hyr=>?_,fun hno H3 s3=>q1 hno _ (s12.trans s3)⟩
 obtain ⟨q3,q4⟩:=q2 i r er hr
 have s13:=s12.trans s3
 refine ⟨_,rfl,y,so,rfl,hy.sb s13,fun ⟨n,en,n0⟩ H4 s4=>?_,fun hneg H4 s4=>q3 hneg _ (s13.trans s4)⟩
 subst en
 have ey:=hy.int
 subst ey
 obtain ⟨q5,q6⟩:=q4 n rfl n0
 have s14:=s13.trans s4
 have rok:=zfa (fun r hr=>(rr r hr).1) hr
 have nb:=sb n rfl
 subst epl
 have exs:=hos.ints
 subst exs
 refine ⟨_,rfl,_,rfl,_,rfl,_,rfl,_,rfl,yv,r,n,rfl,z07 s4 _ _ (Ru.noList_enc _) hyr,rok,n0,nb,fun fv H5 s5 hf=>?_⟩
 have s15:=s14.trans s5
 have plen:=Gr.bare_len hb
 have go2:=Gr.grw_ok rok n0
 have gd2:=Gr.grw_deep rok n
 have gp2:=Gr.grw_parts rok n
 refine ⟨_,rfl,v,w,fv,a,n,D,1000000001*n+2000000002,b,g,Gr.grw r n,pl,t.1,rfl,⟨hv.sb0 s15,ok⟩,⟨hw.sb s15,go,gd,gp,gn⟩,⟨hf,by omega,go2,gd2,gp2⟩,s15.sqT ha,hb,by omega,n0,fun tt u pt H6 s6 htt hu hpt=>?_⟩
 refine ⟨tt,_,rfl,htt,rfl,_,_,rfl,_,_,rfl,rfl,?_⟩
 have d1:=Gr.stk_deep (b:=b) (n:=n) (fr:=Gr.grw r n) hb
 have p1:=Gr.stk_parts (b:=b) (n:=n) (fr:=Gr.grw r n) hb
 have p2:pl.length*(g.parts+1)<=60*2001:=Nat.mul_le_mul (by omega) (by omega)
 have s16:=s15.trans s6
 refine ⟨_,rfl,u,_,rfl,hu,by omega,by omega,fun hin H7 s7=>?_,fun hout H7 s7=>q5 hout _ (s16.trans s7)⟩
 refine ⟨_,rfl,_,rfl,by show 2<=sizeLine; decide,fun T nT=>?_⟩
 have t8:=SB.new (ps:=[]) nT (.tup [u,pt])
 have s17:=s16.trans s7
 exact q6 hin T u pt _ (s17.trans t8) (s17.dom _ nT) (SqT.of upd_same) ((hu.sb s7).sb t8) (z07 (s7.trans t8) _ _ (z0c _) hpt)
abbrev zjd:List Str:=["book","kind","rule","rows"]
theorem sc_q49:FnScope zjd ["book","kind","rule"] (defScope z58):=⟨rfl,rfl,rfl,by decide +kernel,rfl,by decide +kernel,by decide +kernel⟩
theorem zgl {C_NoRule C_Book C_NoKind:Addr} (B:BI mg) (O_NoRule:Own K mg "NoRule" C_NoRule) (G_q50:GotX P w K mg base "rules_from_nought" ["book","name"] (5) (z42 K C_Book C_NoKind)) (G_q42:Got P w K mg base "is_whole" ["thing"] (1) (z2f K)) (F:Fun K "rule_at" "rule_at" z58 f fd):FnOk P w K mg base (L2.CX P w) (6) f fd ["book","kind","rule"] (z6c K C_Book C_NoRule):=by
 refine F.okX sc_q49 (fun vs H Q E h=>?_) (fun cdv A outer s H vs Q E hr h=>?_)
 ·obtain ⟨v,x,b,k,kd,o,rfl,_⟩:=h
  rfl
 obtain ⟨v,x,b,k,kd,o,rfl,hv,ok,eg,hx,q,qE⟩:=h
 have hun2:=hunT hr
 refine ⟨_,pss_cons (ps_set (i:=3) sc_q49.nd rfl (.inl rfl) (z0n G_q50 (hr.mono (by omega)) rfl (takes_of rfl rfl rfl rfl) (pa_cons (pv 0) (pa_cons (pv 1) pa_nil))))
  (pss_cons (ps_if (PW.pt (pw_or (pt_not (pt_val (z00 G_q42 (hr.mono (by omega)) rfl (pa_cons (pv 2) pa_nil)))) (pw_or1 (pt_not (pt_chain op_le op_lt pe_int (pv 2) (pe_callB call_len_seq rfl B.len PySem.boot_len (pa_cons (pv 3) pa_nil))))))) (pss_one (ps_raise rfl (takes_of rfl rfl rfl rfl) (pmk_own PySem.F.excBase_ValueError O_NoRule.q O_NoRule.gC O_NoRule.k (raises_own O_NoRule.s O_NoRule.t) rfl))) pss_nil)
  (pss_one (ps_ret (pe_ix ix_list (pv 3) (pv 2) (fun _ _=>rfl))))),?_⟩
 have szl:=sizeLine_eq
 have r4:∀ k ∈ b,k.rs.length<=4:=fun k hk=>(ok.kd k hk).2.1
 have k4:=r4 kd (Bk.get_some eg).1
 refine ⟨_,rfl,_,rfl,v,b,k,rfl,hv,by have:=ok.len; omega,fun k hk=>by have:=r4 k hk; omega,fun kd' e l us H1 s1 nl hl hb=>?_,fun z=>by rw [eg] at z; cases z⟩
 rw [eg] at e
 cases e
 have ul:=hb.length
 rw [List.length_cons] at ul
 rcases hx with ⟨i,rfl,rfl⟩ | ⟨rfl,n,b1,b2,ty,k1,k2,k3⟩
 ·refine ⟨_,rfl,_,"int",true,false,rfl,.base (.int i),by decide +kernel,fun _=>by decide +kernel,true,rfl,iteF ?_⟩
  refine ⟨_,rfl,_,_,rfl,rfl,_,rfl,?_⟩
  by_cases h0:0<=i
  ·rw [decide_eq_true h0]
   refine iteT ⟨_,rfl,l,us,rfl,.inl (SqL.of hl),_,_,rfl,rfl,_,rfl,?_⟩
   obtain ⟨m,rfl⟩:∃ m:Nat,i=(m:Int):=⟨i.toNat,by omega⟩
   by_cases h1:m < us.length
   ·rw [show decide ((m:Int) < (us.length:Nat))=true from decide_eq_true (by omega)]
    refine iteF ?_
    obtain ⟨y,hy⟩:∃ y,us[m]?=some y:=⟨_,List.getElem?_eq_getElem h1⟩
    obtain ⟨r,er,hr⟩:=hb.get hy
    exact ⟨_,rfl,_,rfl,l,us,_,_,rfl,rfl,SqL.of hl,atI_nat hy,q m r rfl er y H1 s1 hr⟩
   ·rw [show decide ((m:Int) < (us.length:Nat))=false from decide_eq_false (by omega)]
    refine iteT (qE (fun j e=>?_) _ s1)
    have e:(m:Int)=(j:Int):=Option.some.inj e
    exact List.getElem?_eq_none (by rw [List.length_cons]; omega)
  ·rw [decide_eq_false h0]
   refine iteF ⟨_,rfl,iteT (qE (fun j e=>?_) _ s1)⟩
   have e:i=(j:Int):=Option.some.inj e
   omega
 ·refine ⟨_,rfl,x,n,b1,b2,rfl,z1h s1 (fun _ _=>nmn) ty,k1,k2,_,rfl,?_⟩
  rw [k3]
  exact iteT (qE (fun j e=>nomatch e) _ s1)
abbrev zj8:List Str:=["thing"]
theorem zgf:FnScope zj8 ["thing"] (defScope z5g):=⟨rfl,rfl,rfl,by decide +kernel,rfl,by decide +kernel,by decide +kernel⟩
theorem zga {C_NoNumber:Addr} (B:BI mg) (O_NoNumber:Own K mg "NoNumber" C_NoNumber) (G_q42:Got P w K mg base "is_whole" ["thing"] (1) (z2f K)) (F:Fun K "check_number" "check_number" z5g f fd):FnOk P w K mg base (L2.CX P w) (2) f fd ["thing"] (z6i K C_NoNumber):=by
 refine F.okX zgf (fun vs H Q E h=>?_) (fun cdv A outer s H vs Q E hr h=>?_)
 ·obtain ⟨v,o,rfl,_⟩:=h
  rfl
 obtain ⟨v,o,rfl,hv,q1,q2⟩:=h
 have hun2:=hunT hr
 refine ⟨_,pss_one (ps_if (PW.pt (pw_or (pt_not (pt_val (z00 G_q42 (hr.mono (by omega)) rfl (pa_cons (pv 0) pa_nil)))) (pw_or1 (pt_cmpR op_lt (pv 0) pe_int (nomark _))))) (pss_one (ps_raise rfl (takes_of rfl rfl rfl rfl) (pmk_own PySem.F.excBase_ValueError O_NoNumber.q O_NoNumber.gC O_NoNumber.k (raises_own O_NoNumber.s O_NoNumber.t) rfl))) pss_nil),?_⟩
 rcases hv with ⟨i,rfl,rfl⟩ | ⟨rfl,n,b1,b2,ty,k1,k2,k3⟩
 ·refine ⟨_,rfl,_,"int",true,false,rfl,.base (.int i),by decide +kernel,fun _=>by decide +kernel,true,rfl,iteF ?_⟩
  refine ⟨_,rfl,_,_,rfl,rfl,_,rfl,?_⟩
  by_cases h:i < 0
  ·rw [decide_eq_true h]
   exact iteT (q2 (fun n e=>by cases e; exact h) _ SB.refl)
  ·rw [decide_eq_false h]
   exact iteF (q1 ⟨i,rfl,by omega⟩ _ SB.refl)
 ·refine ⟨_,rfl,_,n,b1,b2,rfl,ty,k1,k2,_,rfl,?_⟩
  rw [k3]
  exact iteT (q2 (fun n e=>nomatch e) _ SB.refl)
abbrev ziy:List Str:=["grove"]
theorem zhp:FnScope ziy ["grove"] (defScope z5r):=⟨rfl,rfl,rfl,by decide +kernel,rfl,by decide +kernel,by decide +kernel⟩
theorem zhg {C_TooGreat:Addr} (B:BI mg) (O_TooGreat:Own K mg "TooGreat" C_TooGreat) (L_MOST_PARTS_STANDING:∃ t,mg "MOST_PARTS_STANDING"=some (.int (2000) t)) (L_MOST_DEEP_STANDING:∃ t,mg "MOST_DEEP_STANDING"=some (.int (60) t)) (G_q48:Got P w K mg base "parts_of" ["grove"] (71) (z4e K 70)) (G_q29:Got P w K mg base "deep_of" ["grove"] (70) (z1x K 70)) (F:Fun K "check_bound" "check_bound" z5r f fd):FnOk P w K mg base (L2.CX P w) (72) f fd ["grove"] (z43 K C_TooGreat):=by
 refine F.okX zhp (fun vs H Q E h=>?_) (fun cdv A outer s H vs Q E hr h=>?_)
 ·obtain ⟨v,g,rfl,_⟩:=h
  rfl
 obtain ⟨v,g,rfl,hv,gd,gp,q,qE⟩:=h
 obtain ⟨tk_MOST_PARTS_STANDING,h_MOST_PARTS_STANDING⟩:=L_MOST_PARTS_STANDING
 obtain ⟨tk_MOST_DEEP_STANDING,h_MOST_DEEP_STANDING⟩:=L_MOST_DEEP_STANDING
 have hun2:=hunT hr
 refine ⟨_,pss_one (ps_if (PW.pt (pw_or (pt_cmpR op_gt (z00 G_q48 (hr.mono (by omega)) rfl (pa_cons (pv 0) pa_nil)) (pe_glob (v:=.int (2000)) rfl h_MOST_PARTS_STANDING ⟨_,rfl⟩) (nomark _)) (pw_or1 (pt_cmpR op_gt (z00 G_q29 (hr.mono (by omega)) rfl (pa_cons (pv 0) pa_nil)) (pe_glob (v:=.int (60)) rfl h_MOST_DEEP_STANDING ⟨_,rfl⟩) (nomark _))))) (pss_one (ps_raise rfl (takes_of rfl rfl rfl rfl) (pmk_own PySem.F.excBase_ValueError O_TooGreat.q O_TooGreat.gC O_TooGreat.k (raises_own O_TooGreat.s O_TooGreat.t) rfl))) pss_nil),?_⟩
 refine ⟨_,rfl,v,g,rfl,hv,by omega,gp,fun H1 s1=>?_⟩
 refine ⟨_,_,rfl,rfl,_,rfl,?_⟩
 by_cases h1:g.parts<=2000
 ·rw [show decide ((2000:Int) < (g.parts:Nat))=false from decide_eq_false (by omega)]
  refine iteF ⟨_,rfl,v,g,rfl,hv.sb s1,by omega,gp,fun H2 s2=>?_⟩
  refine ⟨_,_,rfl,rfl,_,rfl,?_⟩
  by_cases h2:g.deep<=60
  ·rw [show decide ((60:Int) < (g.deep:Nat))=false from decide_eq_false (by omega)]
   exact iteF (q ⟨h1,h2⟩ _ (s1.trans s2))
  ·rw [show decide ((60:Int) < (g.deep:Nat))=true from decide_eq_true (by omega)]
   exact iteT (qE (fun z=>h2 z.2) _ (s1.trans s2))
 ·rw [show decide ((2000:Int) < (g.parts:Nat))=true from decide_eq_true (by omega)]
  exact iteT (qE (fun z=>h1 z.1) _ s1)
abbrev zig:List Str:=["rule","number","once","each"]
theorem sc_q33:FnScope zig ["rule","number"] (defScope z51):=⟨rfl,rfl,rfl,by decide +kernel,rfl,by decide +kernel,by decide +kernel⟩
theorem zhr (B:BI mg) (G_q56:Got P w K mg base "together" ["one","other"] (2) (z23 K)) (G_q55:Got P w K mg base "times" ["grove","many"] (1) (z7b K)) (F:Fun K "grown" "grown" z51 f fd):FnOk P w K mg base CX0 (3) f fd ["rule","number"] (z72 K):=by
 refine F.ok sc_q33 (fun vs H Q E h=>?_) (fun cdv A outer s H vs Q E hr h=>?_)
 ·obtain ⟨v,r,n,rfl,_⟩:=h
  rfl
 obtain ⟨v,r,n,rfl,hv,ok,n0,nb,q⟩:=h
 have hun2:=hunT hr
 refine ⟨_,pss_cons (ps_asg (pv 0) (pg_tup rfl (pgs_cons (pg_name (i:=2) sc_q33.nd rfl (.inl rfl)) (pgs_cons (pg_name (i:=3) sc_q33.nd rfl (.inl rfl)) pgs_nil))))
  (pss_one (ps_ret (z00 G_q56 (hr.mono (by omega)) rfl (pa_cons (pv 2) (pa_cons (z00 G_q55 (hr.mono (by omega)) rfl (pa_cons (pv 3) (pa_cons (pv 1) pa_nil))) pa_nil))))),?_⟩
 have szl:=sizeLine_eq
 cases (hv:Dp K H v (.tuple [r.1.enc,r.2.enc])) with
 | @tup ad us' _ hs' hda =>
 cases hda with
 | cons g1 hda =>
 cases hda with
 | cons g2 hda =>
 cases hda
 rename_i v1 v2
 have h1:GA K H v1 r.1:=g1
 have h2:GA K H v2 r.2:=g2
 obtain ⟨o1,o2,pp⟩:=ok
 have d1:=Gr.deep_parts r.1
 have d2:=Gr.deep_parts r.2
 have l1:=r.1.len_parts
 have l2:=r.2.len_parts
 refine ⟨_,rfl,ad,_,rfl,hs',rfl,_,_,rfl,_,_,rfl,rfl,?_⟩
 refine ⟨_,rfl,_,rfl,_,rfl,v2,r.2,n,rfl,h2,by omega,fun p hp=>?_,n0,?_,fun x H2 s2 hx=>?_⟩
 ·obtain ⟨_,_,a,c⟩:=Gr.ok_mem o2 hp
  exact ⟨by omega,Int.lt_of_lt_of_le c (by decide +kernel)⟩
 ·exact Int.lt_of_lt_of_le nb (by decide +kernel)
 have hm:=Gr.tms_ok o2 (by omega) n0
 have e1:=Gr.tms_len r.2 n
 have e2:=Gr.tms_deep r.2 n
 have le:=Int.mul_nonneg (show (0:Int)<=1000000001 by omega) n0
 exact ⟨_,_,r.1,Gr.tmsG r.2 n,rfl,h1.sb s2,hx,⟨_,o1.mono (C:=1000000001*n+1000000001) (by omega),hm⟩,by omega,by omega,by omega,by omega,fun y H3 s3 hy=>q y H3 (s2.trans s3) hy⟩
abbrev zjg:List Str:=["book","kind","number"]
theorem zgu:FnScope zjg ["book","kind","number"] (defScope z53):=⟨rfl,rfl,rfl,by decide +kernel,rfl,by decide +kernel,by decide +kernel⟩
theorem zhj {C_Book C_NoKind:Addr} (B:BI mg) (G_q3:z3p P w K mg base C_Book "spreads" ["self","name"] (4) (z2b K C_Book C_NoKind)) (F:Fun K "further_ones" "further_ones" z53 f fd):FnOk P w K mg base CX0 (5) f fd ["book","kind","number"] (zab K C_Book):=by
 refine F.ok zgu (fun vs H Q E h=>?_) (fun cdv A outer s H vs Q E hr h=>?_)
 ·obtain ⟨v,b,k,n,rfl,_⟩:=h
  rfl
 obtain ⟨v,b,k,n,rfl,hv,bl,hk,q⟩:=h
 have hun2:=hunT hr
 refine ⟨_,pss_cons (ps_if (pt_val (z8u G_q3 (hr.mono (by omega)) (pv 0) (pa_cons (pv 1) pa_nil))) (pss_one (ps_ret (pv 2))) pss_nil)
  (pss_one (ps_ret pe_int)),?_⟩
 obtain ⟨kd,eg⟩:=Bk.get_of hk
 obtain ⟨va,vdx,vd1,vd2,rfl,hva⟩:=hv.at
 refine ⟨_,rfl,va,vdx,_,rfl,hva,rfl,_,rfl,_,b,k,rfl,hv,bl,fun kd' e H1 s1=>?_,fun z=>by rw [eg] at z; cases z⟩
 have hq:=q H1 s1
 unfold Bk.far at hq
 rw [e] at hq
 dsimp only at hq
 refine ⟨_,rfl,?_⟩
 cases hw:kd'.w with
 | true=>rw [hw,if_pos rfl] at hq; exact iteT ⟨_,rfl,hq⟩
 | false=>rw [hw,if_neg (by decide)] at hq; exact iteF hq
abbrev ziq:List Str:=["book","grove","place","fresh","number","tree","left","kind","held","inner","path","changed","row"]
theorem sc_q54:FnScope ziq ["book","grove","place","fresh","number"] (defScope z4x):=⟨rfl,rfl,rfl,by decide +kernel,rfl,by decide +kernel,by decide +kernel⟩
theorem zd0 {C_Book:Addr} {ps:List Str} {k:Nat}:FnOk P w K mg base CX0 k f fd ps (z1y K C_Book 0):=z1n fun vs H Q E ⟨v,w,fv,a,n,D,F,b,g,fr,pl,k,_,_,_,_,_,_,h,_⟩=>by omega
theorem zi9 {m:Nat} {C_Book:Addr} (B:BI mg) (G_q58:Got P w K mg base "without" ["grove","tree","many"] (1) (z4g K)) (G_q56:Got P w K mg base "together" ["one","other"] (2) (z23 K)) (G_q54:Got P w K mg base "struck" ["book","grove","place","fresh","number"] (m+6) (z1y K C_Book m)) (G_q32:Got P w K mg base "further_ones" ["book","kind","number"] (5) (zab K C_Book)) (G_q46:Got P w K mg base "number_of" ["grove","tree"] (1) (z7h K)) (F:Fun K "struck" "struck" z4x f fd):FnOk P w K mg base CX0 (m+7) f fd ["book","grove","place","fresh","number"] (z1y K C_Book (m+1)):=by
 refine F.ok sc_q54 (fun vs H Q E h=>?_) (fun cdv A outer s H vs Q E hr h=>?_)
 ·obtain ⟨v,w,fv,a,n,D,F,b,g,fr,pl,k,rfl,_⟩:=h
  rfl
 obtain ⟨v,w,fv,a,n,D,F,b,g,fr,pl,k,rfl,⟨hv,ok⟩,⟨hw,go,gd,gp,gn⟩,⟨hf,F1,fo,fd4,fp4⟩,hpl,hb,hm,n0,q⟩:=h
 have hun2:=hunT hr
 refine ⟨_,pss_cons (ps_set (i:=5) sc_q54.nd rfl (.inl rfl) (pe_ix ix_tup (pe_ix ix_tup (pv 1) (pe_ix ix_tup (pv 2) pe_int (fun _ _=>rfl)) (fun _ _=>rfl)) pe_int (fun _ _=>rfl)))
  (pss_cons (ps_set (i:=6) sc_q54.nd rfl (.inl rfl) (z00 G_q58 (hr.mono (by omega)) rfl (pa_cons (pv 1) (pa_cons (pv 5) (pa_cons pe_int pa_nil)))))
  (pss_cons (ps_if (pt_cmpR op_eq (pe_callB call_len_seq rfl B.len PySem.boot_len (pa_cons (pv 2) pa_nil)) pe_int (nomark _)) (pss_one (ps_ret (pe_tup (pa_cons (z00 G_q56 (hr.mono (by omega)) rfl (pa_cons (pv 6) (pa_cons (pv 3) pa_nil))) (pa_cons (pe_tup pa_nil) pa_nil))))) pss_nil)
  (pss_cons (ps_asg (pv 5) (pg_tup rfl (pgs_cons (pg_name (i:=7) sc_q54.nd rfl (.inl rfl)) (pgs_cons (pg_name (i:=8) sc_q54.nd rfl (.inl rfl)) pgs_nil))))
  (pss_cons (ps_asg (z00 G_q54 (hr.mono (by omega)) rfl (pa_cons (pv 0) (pa_cons (pv 8) (pa_cons (pe_slice zg0 (pv 2) (po_some pe_int) po_none) (pa_cons (pv 3) (pa_cons (pv 4) pa_nil)))))) (pg_tup rfl (pgs_cons (pg_name (i:=9) sc_q54.nd rfl (.inl rfl)) (pgs_cons (pg_name (i:=10) sc_q54.nd rfl (.inl rfl)) pgs_nil))))
  (pss_cons (ps_set (i:=11) sc_q54.nd rfl (.inl rfl) (pe_tup (pa_cons (pv 7) (pa_cons (pv 9) pa_nil))))
  (pss_cons (ps_set (i:=12) sc_q54.nd rfl (.inl rfl) (z00 G_q56 (hr.mono (by omega)) rfl (pa_cons (pv 6) (pa_cons (pe_tup (pa_cons (pe_tup (pa_cons (pv 11) (pa_cons (pe_op op_add pe_int (z00 G_q32 (hr.mono (by omega)) rfl (pa_cons (pv 0) (pa_cons (pv 7) (pa_cons (pv 4) pa_nil))))) pa_nil))) pa_nil)) pa_nil))))
  (pss_one (ps_ret (pe_tup (pa_cons (pv 12) (pa_cons (pe_op z73 (pe_tup (pa_cons (z00 G_q46 (hr.mono (by omega)) rfl (pa_cons (pv 12) (pa_cons (pv 11) pa_nil))) pa_nil)) (pv 10)) pa_nil))))))))))),?_⟩
 have szl:=sizeLine_eq
 have b8:=ok.len
 obtain ⟨i,r,rfl⟩:∃ i r,pl=i::r:=by
  cases pl with
  | nil=>exact absurd hb (by intro z; cases z)
  | cons i r=>exact ⟨i,r,rfl⟩
 obtain ⟨ga,gs,rfl,hga,hgb⟩:=z0g hw
 have gl:=hgb.length
 have glp:=g.len_parts
 obtain ⟨p,ep⟩:∃ p,g.ps[i]?=some p:=by
  by_cases hr:r=[]
  ·subst hr
   obtain ⟨p,e,_⟩:=Gr.bare_one hb
   exact ⟨p,e⟩
  ·obtain ⟨p,e,_⟩:=Gr.bare_more hr hb
   exact ⟨p,e⟩
 have pm:=List.mem_of_getElem? ep
 obtain ⟨n1,o1,_,_⟩:=Gr.ok_mem go pm
 have pd:=g.mem_deep p pm
 have pp:=g.mem_parts p pm
 obtain ⟨vp,evp,hpd⟩:=hgb.at ep
 obtain ⟨ad,bd,ux,rfl,h1,h2,h3,h4⟩:=z0h hpd
 have plen:=Gr.bare_len hb
 have hC:=Gr.C_pos go pm
 have w1:=Gr.wo_ok go (t:=p.1) (m:=1) (by omega)
 have w2:=Gr.wo_deep g p.1 1
 have w3:=Gr.wo_len g p.1 1
 have frl:=fr.len_parts
 refine ⟨_,rfl,_,rfl,a,_,_,_,rfl,rfl,hpl,atI_nat (j:=0) rfl,ga,gs,_,_,rfl,rfl,hga,atI_nat evp,ad,_,_,_,rfl,rfl,h1,atI_nat (j:=0) rfl,?_⟩
 refine ⟨_,rfl,_,rfl,_,_,g,p.1,1,rfl,hw,h4,⟨D,go,o1⟩,n1,by omega,by omega,by omega,fun left H1 s1 hleft=>?_⟩
 have hpl1:=s1.sqT hpl
 refine ⟨_,rfl,a,_,rfl,.inr hpl1,rfl,_,rfl,?_⟩
 by_cases hr:r=[]
 ·subst hr
  refine iteT ⟨_,rfl,_,rfl,left,fv,Gr.wo g p.1 1,fr,rfl,hleft,hf.sb s1,⟨D+F,w1.mono (by omega),fo.mono (by omega)⟩,by omega,by omega,by omega,by omega,fun x H2 s2 hx=>?_⟩
  refine ⟨by show 0<=sizeLine; decide,fun T nT=>?_⟩
  have t3:=SB.new (ps:=[]) nT (.tup [])
  have hT:SqT K (upd H2 T (.tup [])) T []:=SqT.of upd_same
  generalize upd H2 T (.tup [])=H3 at t3 hT
  refine ⟨by show 2<=sizeLine; decide,fun T2 nT2=>?_⟩
  have t4:=SB.new (ps:=[]) nT2 (.tup [x,.ref T])
  refine q T2 x (.ref T) _ (((s1.trans s2).trans t3).trans t4) (SqT.of upd_same) ?_ ?_
  ·rw [Gr.stk_one ep]; exact hx.sb (t3.trans t4)
  ·rw [Gr.stk_one ep]; exact z82 (p:=[]) (t4.sqT hT)
 have hlen:decide (V.int (((i::r).map fun n:Nat=>V.int (n:Int)).length:Nat)=V.int 1)=false:=by
  have:=List.length_pos_iff.mpr hr
  simp only [List.length_map,List.length_cons,V.int.injEq]
  exact decide_eq_false (by omega)
 rw [hlen]
 obtain ⟨p',ep',hb2⟩:=Gr.bare_more hr hb
 have e:=ep.symm.trans ep'
 cases e
 obtain ⟨kn,pn⟩:=Gr.named_iff.mp gn p pm
 refine iteF ⟨_,rfl,bd,_,rfl,s1.sqT h2,rfl,_,_,rfl,_,_,rfl,rfl,?_⟩
 refine ⟨_,rfl,_,rfl,_,rfl,_,rfl,a,_,rfl,hpl1,fun c H2 s2 hc=>?_⟩
 rw [cut1,List.map_cons,List.drop_succ_cons,List.drop_zero] at hc
 have s02:=s1.trans s2
 rw [List.length_cons] at hm plen
 refine ⟨_,rfl,_,rfl,v,ux,fv,c,n,D,F,b,p.1.2,fr,r,k,rfl,⟨hv.sb0 s02,ok⟩,⟨h3.sb s02,o1,by omega,by omega,pn⟩,⟨hf.sb s02,F1,fo,fd4,fp4⟩,hc,hb2,by omega,n0,fun t u pt H3 s3 ht hu hq=>?_⟩
 obtain ⟨pa,rfl,hpa⟩:=z2c hq
 refine ⟨t,_,rfl,ht,rfl,_,_,rfl,_,_,rfl,rfl,?_⟩
 refine ⟨_,rfl,_,rfl,by show 2<=sizeLine; decide,fun T nT=>?_⟩
 have t4:=SB.new (ps:=[]) nT (.tup [.str p.1.1,u])
 have hT:SqT K (upd H3 T (.tup [.str p.1.1,u])) T [.str p.1.1,u]:=SqT.of upd_same
 generalize upd H3 T (.tup [.str p.1.1,u])=H4 at t4 hT
 have hch:Dp K H4 (.ref T) (Gr.tEnc (Gr.chg b n fr r p)):=.tup hT (.cons (.str _) (.cons (hu.sb t4) .nil))
 have s34:=s3.trans t4
 have s04:=s02.trans s34
 refine ⟨_,rfl,_,rfl,_,rfl,_,rfl,_,rfl,v,b,p.1.1,n,rfl,hv.sb0 s04,by omega,kn,fun H5 s5=>?_⟩
 refine ⟨_,_,rfl,rfl,by show 2<=sizeLine; decide,fun T2 nT2=>?_⟩
 have t6:=SB.new (ps:=[]) nT2 (.tup [.ref T,.int (1+b.far p.1.1 n)])
 have hT2:SqT K (upd H5 T2 (.tup [.ref T,.int (1+b.far p.1.1 n)])) T2 [.ref T,.int (1+b.far p.1.1 n)]:=SqT.of upd_same
 generalize upd H5 T2 (.tup [.ref T,.int (1+b.far p.1.1 n)])=H6 at t6 hT2
 refine ⟨by show 1<=sizeLine; decide,fun T3 nT3=>?_⟩
 have t7:=SB.new (ps:=[]) nT3 (.tup [.ref T2])
 have hT3:SqT K (upd H6 T3 (.tup [.ref T2])) T3 [.ref T2]:=SqT.of upd_same
 generalize upd H6 T3 (.tup [.ref T2])=H7 at t7 hT3
 have s57:=(s5.trans t6).trans t7
 have hone:GA K H7 (.ref T3) (Gr.one (Gr.chg b n fr r p) (1+b.far p.1.1 n)):=z2i (bs:=[(Gr.chg b n fr r p,1+b.far p.1.1 n)]) hT3 (.cons (z32 (t7.sqT hT2) (z07 s57 _ _ (Gr.noList_tEnc _) hch)) .nil)
 obtain ⟨f0,f1⟩:=Bk.far_le b p.1.1 n0
 have io:=Gr.stk_ok (b:=b) n0 F1 fo o1 hb2
 have id:=Gr.stk_deep (b:=b) (n:=n) (fr:=fr) hb2
 have il:=Gr.bare_len hb2
 have cd:(Gr.one (Gr.chg b n fr r p) (1+b.far p.1.1 n)).deep<=63:=by
  show max (1+(Gr.stk b n fr r p.1.2).1.deep) 0<=63
  omega
 have hso:(Gr.one (Gr.chg b n fr r p) (1+b.far p.1.1 n)).Ok (D+F+n+2):=Gr.one_ok (t:=Gr.chg b n fr r p) n1 io (by omega) (by omega)
 refine ⟨left,.ref T3,Gr.wo g p.1 1,Gr.one (Gr.chg b n fr r p) (1+b.far p.1.1 n),rfl,((hleft.sb s2).sb s34).sb s57,hone,⟨_,w1.mono (by omega),hso⟩,by omega,cd,by omega,by rw [Gr.one_ps]; simp,fun row H8 s8 hrow=>?_⟩
 obtain ⟨⟨D2,ro⟩,m2,rm⟩:=Gr.chR_mem (b:=b) n0 F1 fo go hr ep hb
 have rd:(Gr.chR b n fr r g p).deep<=63:=Gr.tgt_deep (by omega) cd
 have rl:(Gr.chR b n fr r g p).ps.length<=5000:=by
  have h1:=z4j (srtE (z0r Gr.tEnc) ((Gr.wo g p.1 1).ps++(Gr.one (Gr.chg b n fr r p) (1+b.far p.1.1 n)).ps))
  rw [(z0t _).length_eq,List.length_append,Gr.one_ps] at h1
  show (Gr.tgt _ _).ps.length<=_
  rw [Gr.tgt_ps,Gr.one_ps]
  unfold tdy
  simp only [List.length_cons,List.length_nil] at h1
  omega
 refine ⟨_,rfl,_,rfl,_,rfl,row,.ref T,Gr.chR b n fr r g p,Gr.chg b n fr r p,m2,rfl,hrow,z07 (s57.trans s8) _ _ (Gr.noList_tEnc _) hch,⟨D2,ro⟩,rd,rl,rm,fun H9 s9=>?_⟩
 refine ⟨by show 1<=sizeLine; decide,fun T4 nT4=>?_⟩
 have t10:=SB.new (ps:=[]) nT4 (.tup [.int (Gr.pos (Gr.chR b n fr r g p) (Gr.chg b n fr r p):Nat)])
 have hT4:SqT K (upd H9 T4 (.tup [.int (Gr.pos (Gr.chR b n fr r g p) (Gr.chg b n fr r p):Nat)])) T4 [.int (Gr.pos (Gr.chR b n fr r g p) (Gr.chg b n fr r p):Nat)]:=SqT.of upd_same
 generalize upd H9 T4 (.tup [.int (Gr.pos (Gr.chR b n fr r g p) (Gr.chg b n fr r p):Nat)])=H10 at t10 hT4
 have s4A:=((s57.trans s8).trans s9).trans t10
 have pl2:=Gr.stk_plen (b:=b) (n:=n) (fr:=fr) hb2
 refine ⟨_,rfl,T4,pa,_,_,rfl,rfl,hT4,(t4.trans s4A).sqT hpa,by rw [List.length_map]; simp only [List.length_cons,List.length_nil]; omega,fun c2 H11 s11 hc2=>?_⟩
 refine ⟨by show 2<=sizeLine; decide,fun T5 nT5=>?_⟩
 have t12:=SB.new (ps:=[]) nT5 (.tup [row,.ref c2])
 refine q T5 row (.ref c2) _ (((s04.trans s4A).trans s11).trans t12) (SqT.of upd_same) ?_ ?_
 ·rw [Gr.stk_more ep hr]
  exact ((((hrow.sb s9).sb t10).sb s11).sb t12)
 ·rw [Gr.stk_more ep hr]
  exact z82 (t12.sqT hc2)
abbrev zdn:List Str:=["book","grove","found","place","rows","rule"]
theorem sc_q26:FnScope zdn ["book","grove"] (defScope z3j):=⟨rfl,rfl,rfl,by decide +kernel,rfl,by decide +kernel,by decide +kernel⟩
theorem zh1 {C_Book C_NoKind C_NoPlace:Addr} (B:BI mg) (G_q23:GotX P w K mg base "check_kinds" ["book","grove"] (72) (z1p K C_Book)) (G_q19:Got P w K mg base "bare_places" ["grove"] (20) (z2g K 20)) (G_q50:GotX P w K mg base "rules_from_nought" ["book","name"] (5) (z42 K C_Book C_NoKind)) (G_q57:GotX P w K mg base "tree_at" ["grove","place"] (2) (z44 K C_NoPlace)) (F:Fun K "choices" "choices" z3j f fd):FnOk P w K mg base (L2.CX P w) (76) f fd ["book","grove"] (z29 K C_Book C_NoKind):=by
 refine F.okX sc_q26 (fun vs H Q E h=>?_) (fun cdv A outer s H vs Q E hr h=>?_)
 ·obtain ⟨v,w,b,g,rfl,_⟩:=h
  rfl
 obtain ⟨v,w,b,g,rfl,hv,hg,ok,hd,hp,ho,hk,q⟩:=h
 have hun2:=hunT hr
 refine ⟨_,pss_cons (ps_expr (z0n G_q23 (hr.mono (by omega)) rfl (takes_of rfl rfl rfl rfl) (pa_cons (pv 0) (pa_cons (pv 1) pa_nil))))
  (pss_cons (ps_set (i:=2) sc_q26.nd rfl (.inl rfl) (pe_lst pa_nil))
  (pss_cons (ps_for (passes_of rfl) rfl (pi_list (z00 G_q19 (hr.mono (by omega)) rfl (pa_cons (pv 1) pa_nil))) (pg_name (i:=3) sc_q26.nd rfl (.inr rfl))
   (pss_cons (ps_set (i:=4) sc_q26.nd rfl (.inl rfl) (z0n G_q50 (hr.mono (by omega)) rfl (takes_of rfl rfl rfl rfl) (pa_cons (pv 0) (pa_cons (pe_ix ix_tup (z0n G_q57 (hr.mono (by omega)) rfl (takes_of rfl rfl rfl rfl) (pa_cons (pv 1) (pa_cons (pv 3) pa_nil))) pe_int (fun _ _=>rfl)) pa_nil))))
  (pss_one (ps_expr (pe_bm PySem.F.plainAttrs_list PySem.F.slot_list_extend PySem.F.type_list_extend mt_extend (pv 2) (pa_cons (pe_lc (own:=[("rule",5)]) (g:=(gName 5)) (tt:=tYes) (te:=(tTup (tCons (tVar 3) (tCons (tVar 5) tNil)))) rfl sc_q26.nd (pi_range1 rfl B.range (pa_cons (pe_callB call_len_seq rfl B.len PySem.boot_len (pa_cons (pv 4) pa_nil)) pa_nil)) (blkOk_by (N:=zdn) (sc:=defScope z3j) (by decide +kernel)) (fun _ _ _ _ _=>(pg_name (i:=5) sc_q26.nd rfl (.inl rfl))) (fun _ _ _ _ _=>pts_nil) (fun _ _ _ _ _=>(pe_tup (pa_cons (pv 3) (pa_cons (pv 5) pa_nil))))) pa_nil))))))
  (pss_one (ps_ret (pv 2))))),?_⟩
 have szl:=sizeLine_eq
 have b8:=ok.len
 have r4:∀ k ∈ b,k.rs.length<=4:=fun k hk=>(ok.kd k hk).2.1
 have bl:=g.bp_len 0
 have bkl:(g.bk 0).length=(g.bp 0).length:=by rw [<- Gr.bk_bp,List.length_map]
 refine ⟨_,rfl,_,rfl,v,w,b,g,rfl,hv,hg,by omega,by omega,by omega,hk,fun H1 s1=>?_⟩
 refine ⟨(by show 0<=sizeLine; decide),fun D hD=>?_⟩
 have t2:=SB.new (ps:=[]) hD (.lst [])
 have hD2:upd H1 D (.lst []) D=some (.lst []):=upd_same
 generalize upd H1 D (.lst [])=H2 at t2 hD2
 have s2:=s1.trans t2
 refine ⟨_,rfl,w,g,rfl,hg.sb s2,hd,by omega,by omega,fun M us H3 s3 nM hM hbp=>⟨M,rfl,⟨_,SqL.of hM⟩,?_⟩⟩
 have ul:=hbp.length
 have MD:M ≠ D:=fun z=>by rw [z,hD2] at nM; cases nM
 have s03:=s2.trans s3
 have cl:∀ xs:List (Pl × Str),(∀ x ∈ xs,x.2 ∈ b.names)->(xs.flatMap (chs b)).length<=5*xs.length:=by
  intro xs
  induction xs with
  | nil=>intro _; simp
  | cons x xs ih =>
   intro h
   have h1:=ih fun y hy=>h y (mcm _ hy)
   obtain ⟨kd,eg⟩:=Bk.get_of (h x mcs)
   have h2:=r4 kd (Bk.get_some eg).1
   have h3:b.cnt x.2=1+kd.rs.length:=by unfold Bk.cnt; rw [eg]
   have h4:(chs b x).length=b.cnt x.2:=by unfold chs; rw [List.length_map,List.length_range]
   rw [List.flatMap_cons,List.length_append,List.length_cons,h4,h3]
   omega
 have nms:∀ x ∈ g.bk 0,x.2 ∈ b.names:=fun x hx=>by
  have h1:x.2 ∈ (g.ak 0).map (·.2):=List.mem_map.mpr ⟨x,Gr.bk_ak g 0 x hx,rfl⟩
  rw [Gr.ak_kinds] at h1
  obtain ⟨p,hp,e⟩:=List.mem_map.mp h1
  rw [<- e]; exact hk p hp
 refine for_it (walk_list (xs:=us)) (fun i σ H4=>SB [D] H3 H4/\∃ ws o3 o4,σ=[some v,some w,some (.ref D),o3,o4,none]/\H4 D=some (.lst ws)/\Bears K H4 chE ws (((g.bk 0).take i).flatMap (chs b))) ⟨SB.refl,[],none,none,rfl,s3.keep _ _ hD2 nmn,.nil⟩ (fun i σ H4 hi h4=>h4.1.sqL (by simpa using MD) (SqL.of hM)) (fun i z σ Hq H4 hi h4 y=>?_) (fun σ H4 h4=>?_)
 ·obtain ⟨s4,ws,o3,o4,rfl,hD4,hb4⟩:=h4
  obtain ⟨rfl,ey⟩:=y
  obtain ⟨pl,epl,hpl⟩:=hbp.get ey
  rw [<- Gr.bk_bp,List.getElem?_map] at epl
  obtain ⟨x,ex,rfl⟩:=Option.map_eq_some_iff.mp epl
  have xm:=List.mem_of_getElem? ex
  obtain ⟨pa,rfl,hpa⟩:=z2c hpl
  obtain ⟨n1,t,e1,e2⟩:=g.ak_place x (Gr.bk_ak g 0 x xm)
  obtain ⟨kd,eg⟩:=Bk.get_of (nms x xm)
  have k4:=r4 kd (Bk.get_some eg).1
  have ecn:b.cnt x.2=1+kd.rs.length:=by unfold Bk.cnt; rw [eg]
  have wl:=hb4.length
  have hcl:=cl ((g.bk 0).take i) fun x hx=>nms x (List.mem_of_mem_take hx)
  rw [List.length_take] at hcl
  have nl:Lsts H3 [D]:=fun p hp=>by rw [List.mem_singleton.mp hp]; exact .inr ⟨_,s3.keep _ _ hD2 nmn⟩
  have hv4:=(hv.sb0 s03).sb s4 nl
  have hg4:=GA.sb (hg.sb s03) s4
  refine ⟨_,rfl,_,rfl,_,rfl,w,g,pa,_,plO x.1,rfl,hg4,s4.sqT hpa,Whs.pl K H4 x.1,fun t' _ et X H5 s5 hX=>?_,fun z=>?_⟩
  ·obtain rfl:t'=t:=Option.some.inj (et.symm.trans e1)
   cases (hX:Dp K H5 X (.tuple [.str t'.1,t'.2.enc])) with
   | tup hX1 hX2 =>
   cases hX2 with
   | cons k1 hX2 =>
   cases hX2 with
   | cons k2 hX2 =>
   cases hX2
   cases k1
   refine ⟨_,_,_,_,rfl,rfl,hX1,atI_nat (j:=0) rfl,v,b,t'.1,rfl,hv4.sb0 s5,by omega,fun k hk=>by have:=r4 k hk; omega,fun k' eg' R rs H6 s6 nR hR hbR=>?_,fun z=>by rw [e2,eg] at z; cases z⟩
   rw [e2,eg] at eg'
   cases eg'
   have rl:=hbR.length
   rw [List.length_cons] at rl
   have s46:=s5.trans s6
   have hD6:=s46.keep _ _ hD4 nmn
   refine ⟨_,rfl,.inl ⟨rfl,_,SqL.of hD6⟩,?_⟩
   refine ⟨_,rfl,R,rs,rfl,.inl (SqL.of hR),_,rfl,by omega,by omega,fun L hL=>?_⟩
   have re:((rs.length:Nat):Int).toNat=rs.length:=Int.toNat_natCast _
   refine z34 (walk_range (lo:=0) (n:=((rs.length:Nat):Int).toNat)) hL (by omega) (fun j us7 H7=>Bears K H7 chE us7 ((List.range j).map fun r=>(x.1,r))) .nil (fun _ _=>trivial) (fun _ _ _ _ e h=>h.sb e z14) (fun Pv j z Hq H7 us7 hj s7 y hR7 hu7 fin _=>?_) (fun us7 H7 s7 hL7 hR7 hu7=>?_)
   ·obtain ⟨rfl,rfl⟩:=y
    refine ⟨rfl,_,rfl,_,rfl,by show 2<=sizeLine; decide,fun T hT=>?_⟩
    refine fin _ _ (SB.new (ps:=[]) hT _) ?_
    rw [List.range_succ,List.map_append]
    refine Bears.append (hR7.sb (SB.new (ps:=[]) hT _) z14) (.cons ?_ .nil)
    refine .tup (SqT.of upd_same) (.cons (z07 (SB.new (ps:=[D]) hT _) _ _ (z0c _) (z07 ((s4.trans s46.nil).trans s7.nil) _ _ (z0c _) hpl)) (.cons ?_ .nil))
    show Dp K _ (.int (0+(j:Int))) (.int ((j:Nat):Int))
    rw [Int.zero_add]; exact .int _
   ·rw [re,rl,Nat.add_comm,<- ecn] at hR7
    have hR7:Bears K H7 chE us7 (chs b x):=hR7
    have u7:=hR7.length
    have hD7:=s7.keep _ _ hD6 nmn
    have cxl:(chs b x).length=1+kd.rs.length:=by unfold chs; rw [List.length_map,List.length_range,ecn]
    refine ⟨D,L,_,_,rfl,rfl,hD7,hL7,by omega,?_⟩
    have t8:=SB.set (ps:=[D]) hD7 (by simp) (.lst (ws++us7))
    have s47:=s46.trans s7
    refine ⟨(s4.trans s47.nil).trans t8,_,_,_,rfl,upd_same,?_⟩
    rw [List.take_add_one,ex,List.flatMap_append]
    refine Bears.append ((hb4.sb s47 z14).sb t8 z14) ?_
    simpa using hR7.sb t8 z14
  ·rcases z with z | z
   ·exact absurd z n1
   ·rw [e1] at z; cases z
 ·obtain ⟨s4,ws,o3,o4,rfl,hD4,hb4⟩:=h4
  rw [ul,<- bkl,List.take_length] at hb4
  exact ⟨_,rfl,q D ws H4 ((s03.nil.trans s4).drop (s1.dom _ hD)) (s1.dom _ hD) hD4 hb4⟩
abbrev zc7:List Str:=["_law_script","_law_k","_law_cell","_law_digits","_law_begin"]
theorem sc_law_purse:FnScope zc7 ["_law_script","_law_k"] (defScope z57):=⟨rfl,rfl,rfl,by decide +kernel,rfl,by decide +kernel,by decide +kernel⟩
theorem z91 (B:BI mg) (F:Fun K "_law_purse" "_law_purse" z57 f fd):FnOk P w K mg base CX0 1 f fd ["_law_script","_law_k"] (z21 K):=by
 refine F.ok sc_law_purse (fun vs H Q E h=>?_) (fun cdv A outer s H vs Q E hr h=>?_)
 ·obtain ⟨a,ns,k,rfl,_⟩:=h
  rfl
 obtain ⟨a,ns,k,rfl,hs,h63,hk,q⟩:=h
 refine ⟨_,pss_cons (ps_set (i:=2) sc_law_purse.nd rfl (.inl rfl) pe_int)
  (pss_cons (ps_if (pt_cmpR op_lt (pv 1) (pe_callB call_len_seq rfl B.len PySem.boot_len (pa_cons (pv 0) pa_nil)) (nomark _)) (pss_one (ps_set (i:=2) sc_law_purse.nd rfl (.inl rfl) (pe_ix ix_list (pv 0) (pv 1) (fun _ _=>rfl)))) pss_nil)
  (pss_cons (ps_set (i:=3) sc_law_purse.nd rfl (.inl rfl) pe_int)
  (pss_cons (ps_if (PW.pt (pw_or (pt_cmpR op_ge (pv 2) (pe_op op_pow pe_int pe_int) (nomark _)) (pw_or1 (pt_cmpR op_lt (pv 2) pe_int (nomark _)))))
   (pss_one (ps_set (i:=3) sc_law_purse.nd rfl (.inl rfl) (pe_op op_mod (pe_callB call_abs rfl B.abs boot_abs (pa_cons (pv 2) pa_nil)) (pe_op op_mulW (pe_op op_mulW (pe_op op_mulW (pe_op op_mulW (pe_op op_pow pe_int pe_int) (pe_op op_pow pe_int pe_int)) (pe_op op_pow pe_int pe_int)) (pe_op op_pow pe_int pe_int)) (pe_op op_pow pe_int pe_int))))) pss_nil)
  (pss_cons (ps_set (i:=4) sc_law_purse.nd rfl (.inl rfl) (pe_op op_mul (pe_op op_add (pe_op op_mod (pv 2) pe_int) pe_int) (pe_op op_add (pe_op op_add (pe_op op_mul (pe_op op_mul pe_int (pv 1)) (pv 1)) (pe_op op_mul pe_int (pv 1))) pe_int)))
  (pss_one (ps_ret (pe_lst (pa_cons (pv 3) (pa_cons (pe_op op_add (pe_op op_mod (pe_op op_mul (pv 4) pe_int) pe_int) pe_int) pa_nil))))))))),?_⟩
 have fin:∀ (c x:Int),0<=x->tSeq (tAsg (tOp (rI CMul fun i j=>.int (i*j)) (tOp (rI0 fun i j=>.int (i+j)) (tOp (rI (fun _ j=>0 < j) fun i j=>.int (i % j)) (tVar 2) (tC (.int 18446744073709551557))) (tC (.int 1))) (tOp (rI0 fun i j=>.int (i+j)) (tOp (rI0 fun i j=>.int (i+j)) (tOp (rI CMul fun i j=>.int (i*j)) (tOp (rI CMul fun i j=>.int (i*j)) (tC (.int 7)) (tVar 1)) (tVar 1)) (tOp (rI CMul fun i j=>.int (i*j)) (tC (.int 2)) (tVar 1))) (tC (.int 3)))) (gName 4))
   (tRet (tLst (tCons (tVar 3) (tCons (tOp (rI0 fun i j=>.int (i+j)) (tOp (rI (fun _ j=>0 < j) fun i j=>.int (i % j)) (tOp (rI CMul fun i j=>.int (i*j)) (tVar 4) (tC (.int 2654435761))) (tC (.int 18446744073709551557))) (tC (.int 1))) tNil))))
   { nx:=fun _ H'=>Q .non H',rt:=Q } [some (.ref a),some (.int (k:Int)),some (.int c),some (.int x),none] H:=by
  intro c x hx
  refine ⟨_,rfl,_,_,rfl,rfl,(by show (0:Int) < 18446744073709551557; decide),_,_,rfl,rfl,_,rfl,_,_,rfl,rfl,.inl ⟨by decide,by decide⟩,_,rfl,_,_,rfl,rfl,.inl ⟨by show -(2 ^ 64) < 7*(k:Int); omega,by show 7*(k:Int) < 2 ^ 64; omega⟩,_,rfl,_,_,rfl,rfl,.inl ⟨by decide,by decide⟩,_,_,rfl,rfl,_,_,rfl,rfl,_,_,rfl,rfl,.inr ⟨?_,?_⟩,?_⟩
  ·have h1:0<=7*(k:Int)*(k:Int):=Int.mul_nonneg (by omega) (by omega)
   show -(2 ^ 64) < 7*(k:Int)*k+2*k+3; omega
  ·have h1:7*(k:Int)*(k:Int)<=7000*1000:=Int.mul_le_mul (by omega) (by omega) (by omega) (by decide)
   show 7*(k:Int)*k+2*k+3 < 2 ^ 64; omega
  refine ⟨_,rfl,_,rfl,_,_,rfl,rfl,.inr ⟨by decide,by decide⟩,_,_,rfl,rfl,(by show (0:Int) < 18446744073709551557; decide),_,_,rfl,rfl,(by show 2<=sizeLine; decide),fun p hp=>?_⟩
  refine q p _ (SB.new hp _) hp ⟨x,_,upd_same,hx,?_,?_⟩
  ·have:=Int.emod_nonneg ((c % 18446744073709551557+1)*(7*(k:Int)*k+2*k+3)*2654435761) (b:=18446744073709551557) (by decide)
   omega
  ·have:=Int.emod_lt_of_pos ((c % 18446744073709551557+1)*(7*(k:Int)*k+2*k+3)*2654435761) (b:=18446744073709551557) (by decide)
   omega
 have mid:∀ (c:Int),tSeq (tAsg (tC (.int 0)) (gName 3)) (tSeq (tIfS (tOr (tTest (tOp (rI0 fun i j=>.bl (decide (i ≥ j))) (tVar 2) (tOp (rI CPow fun i j=>.int (i ^ j.toNat)) (tC (.int 10)) (tC (.int 18))))) (tTest (tOp (rI0 fun i j=>.bl (decide (i < j))) (tVar 2) (tC (.int 0)))))
   (tAsg (tOp (rI (fun _ j=>0 < j) fun i j=>.int (i % j)) (tCB (fun xs H Q=>∃ i,xs=[.int i]/\Q (.int (if i < 0 then -i else i)) H) (tCons (tVar 2) tNil)) (tOp (rI CMulW fun i j=>.int (i*j)) (tOp (rI CMulW fun i j=>.int (i*j)) (tOp (rI CMulW fun i j=>.int (i*j)) (tOp (rI CMulW fun i j=>.int (i*j)) (tOp (rI CPow fun i j=>.int (i ^ j.toNat)) (tC (.int 10)) (tC (.int 60))) (tOp (rI CPow fun i j=>.int (i ^ j.toNat)) (tC (.int 10)) (tC (.int 60)))) (tOp (rI CPow fun i j=>.int (i ^ j.toNat)) (tC (.int 10)) (tC (.int 60)))) (tOp (rI CPow fun i j=>.int (i ^ j.toNat)) (tC (.int 10)) (tC (.int 60)))) (tOp (rI CPow fun i j=>.int (i ^ j.toNat)) (tC (.int 10)) (tC (.int 60))))) (gName 3)) tNext)
   (tSeq (tAsg (tOp (rI CMul fun i j=>.int (i*j)) (tOp (rI0 fun i j=>.int (i+j)) (tOp (rI (fun _ j=>0 < j) fun i j=>.int (i % j)) (tVar 2) (tC (.int 18446744073709551557))) (tC (.int 1))) (tOp (rI0 fun i j=>.int (i+j)) (tOp (rI0 fun i j=>.int (i+j)) (tOp (rI CMul fun i j=>.int (i*j)) (tOp (rI CMul fun i j=>.int (i*j)) (tC (.int 7)) (tVar 1)) (tVar 1)) (tOp (rI CMul fun i j=>.int (i*j)) (tC (.int 2)) (tVar 1))) (tC (.int 3)))) (gName 4))
   (tRet (tLst (tCons (tVar 3) (tCons (tOp (rI0 fun i j=>.int (i+j)) (tOp (rI (fun _ j=>0 < j) fun i j=>.int (i % j)) (tOp (rI CMul fun i j=>.int (i*j)) (tVar 4) (tC (.int 2654435761))) (tC (.int 18446744073709551557))) (tC (.int 1))) tNil))))))
   { nx:=fun _ H'=>Q .non H',rt:=Q } [some (.ref a),some (.int (k:Int)),some (.int c),none,none] H:=by
  intro c
  have cp:CPow 10 60:=⟨by decide,by decide,by decide⟩
  refine ⟨_,rfl,_,_,rfl,rfl,⟨by decide,by decide,by decide⟩,_,_,rfl,rfl,_,rfl,?_⟩
  refine ite2 (fun z=>iteT ?_) (fun z=>⟨_,rfl,_,_,rfl,rfl,_,rfl,ite2 (fun z=>?_) (fun z=>?_)⟩)
  case refine_3=>exact fin c 0 (Int.le_refl 0)
  all_goals
   refine ⟨_,rfl,c,rfl,_,_,rfl,rfl,cp,_,_,rfl,rfl,cp,_,_,rfl,rfl,wide_mul (a:=200) (b:=200) (by decide) (by decide) (by decide) (by decide) (by decide),_,_,rfl,rfl,cp,_,_,rfl,rfl,wide_mul (a:=400) (b:=200) (by decide) (by decide) (by decide) (by decide) (by decide),_,_,rfl,rfl,cp,_,_,rfl,rfl,wide_mul (a:=600) (b:=200) (by decide) (by decide) (by decide) (by decide) (by decide),_,_,rfl,rfl,cp,_,_,rfl,rfl,wide_mul (a:=800) (b:=200) (by decide) (by decide) (by decide) (by decide) (by decide),_,_,rfl,rfl,?_,?_⟩
   ·show (0:Int) < 10 ^ 60*10 ^ 60*10 ^ 60*10 ^ 60*10 ^ 60; decide
   ·exact fin c _ (Int.emod_nonneg _ (by decide))
 refine ⟨_,rfl,_,rfl,a,_,rfl,.inl hs,_,_,rfl,rfl,_,rfl,?_⟩
 refine ite2 (fun z=>?_) (fun z=>?_)
 ·have z':(k:Int) < ((ns.map V.int).length:Nat):=of_decide_eq_true z
  rw [List.length_map] at z'
  have hk2:k < ns.length:=by omega
  refine ⟨_,rfl,_,rfl,a,_,_,_,rfl,rfl,hs,atI_nat (j:=k) (v:=.int ns[k]) (by rw [List.getElem?_map,List.getElem?_eq_getElem hk2]; rfl),?_⟩
  exact mid _
 ·exact mid 0
abbrev zfp:List Str:=["_law_purse_here","_law_many","_law_digit"]
theorem sc_law_take:FnScope zfp ["_law_purse_here","_law_many"] (defScope z55):=⟨rfl,rfl,rfl,by decide +kernel,rfl,by decide +kernel,by decide +kernel⟩
theorem z9k (F:Fun K "_law_take" "_law_take" z55 f fd):FnOk P w K mg base CX0 1 f fd ["_law_purse_here","_law_many"] z0v:=by
 refine F.ok sc_law_take (fun vs H Q E h=>?_) (fun cdv A outer s H vs Q E hr h=>?_)
 ·obtain ⟨p,m,rfl,_⟩:=h
  rfl
 obtain ⟨p,m,rfl,⟨x,y,hp,hx,hy,hy2⟩,hm,hm2,q⟩:=h
 refine ⟨_,pss_cons (ps_if (pt_cmpR op_gt (pe_ix ix_list (pv 0) pe_int (fun _ _=>rfl)) pe_int (nomark _))
   (pss_cons (ps_set (i:=2) sc_law_take.nd rfl (.inl rfl) (pe_op op_mod (pe_ix ix_list (pv 0) pe_int (fun _ _=>rfl)) (pv 1)))
   (pss_cons (ps_asg (pe_op op_fdivW (pe_ix ix_list (pv 0) pe_int (fun _ _=>rfl)) (pv 1)) (pg_sub (pv 0) pe_int set_list)) (pss_one (ps_ret (pv 2))))) pss_nil)
  (pss_cons (ps_asg (pe_op op_add (pe_op op_mod (pe_op op_add (pe_op op_mul (pe_ix ix_list (pv 0) pe_int (fun _ _=>rfl)) pe_int) pe_int) pe_int) pe_int) (pg_sub (pv 0) pe_int set_list))
  (pss_one (ps_ret (pe_op op_mod (pe_op op_fdivW (pe_op op_pow (pe_ix ix_list (pv 0) pe_int (fun _ _=>rfl)) pe_int) pe_int) (pv 1))))),?_⟩
 have hS:SqL K H p [.int x,.int y]:=SqL.of hp
 refine ⟨_,rfl,p,_,_,_,rfl,rfl,hS,ix0,_,_,rfl,rfl,_,rfl,?_⟩
 refine ite2 (fun c=>?_) (fun c=>?_)
 ·refine ⟨_,rfl,p,_,_,_,rfl,rfl,hS,ix0,_,rfl,_,_,rfl,rfl,(by show (0:Int) < m; omega),?_⟩
  refine ⟨_,rfl,p,_,_,_,rfl,rfl,hS,ix0,_,rfl,_,_,rfl,rfl,wide_div (b:=250) (by omega) (by omega) (by decide) (by decide),?_⟩
  refine ⟨_,rfl,p,_,_,_,rfl,rfl,hp,rfl,?_⟩
  refine ⟨_,rfl,q _ _ (Int.emod_nonneg _ (by omega)) (Int.emod_lt_of_pos _ (by omega)) (SB.set hp (by simp) _) ⟨x / m,y,upd_same,Int.ediv_nonneg hx (by omega),hy,hy2⟩⟩
 ·refine ⟨_,rfl,p,_,_,_,rfl,rfl,hS,ix1,_,_,rfl,rfl,.inr ⟨by decide,by decide⟩,_,_,rfl,rfl,_,_,rfl,rfl,(by show (0:Int) < 18446744073709551557; decide),_,_,rfl,rfl,?_⟩
  refine ⟨_,rfl,p,_,_,_,rfl,rfl,hp,rfl,?_⟩
  have b1:=Int.emod_nonneg (y*5851302741139+977) (b:=18446744073709551557) (by decide)
  have b2:=Int.emod_lt_of_pos (y*5851302741139+977) (b:=18446744073709551557) (by decide)
  generalize (y*5851302741139+977) % 18446744073709551557=z at b1 b2 ⊢
  have hp2:(upd H p (.lst [.int x,.int (z+1)])) p=some (.lst [.int x,.int (z+1)]):=upd_same
  have hS2:SqL K (upd H p (.lst [.int x,.int (z+1)])) p [.int x,.int (z+1)]:=SqL.of hp2
  refine ⟨_,rfl,p,_,_,_,rfl,rfl,hS2,ix1,_,_,rfl,rfl,⟨by decide,by decide,by omega⟩,_,_,rfl,rfl,wide_div (b:=100) (by decide) (by decide) (by decide) (by decide),_,rfl,_,_,rfl,rfl,(by show (0:Int) < m; omega),?_⟩
  exact q _ _ (Int.emod_nonneg _ (by omega)) (Int.emod_lt_of_pos _ (by omega)) (SB.set hp (by simp) _) ⟨x,z+1,upd_same,hx,by omega,by omega⟩
abbrev z36:List Str:=["_law_purse_here","_law_most","_law_letters","_law_base","_law_many","_law_turn","_law_found","_law_long","_law_at","_law_first","_law_some","_law_k","_law_sign"]
theorem sc_law_names:FnScope z36 ["_law_purse_here","_law_most"] (defScope s_q8):=⟨rfl,rfl,rfl,by decide +kernel,rfl,by decide +kernel,by decide +kernel⟩
theorem z8r (B:BI mg) (GT:Got P w K mg base "_law_take" ["_law_purse_here","_law_many"] 1 z0v) (F:Fun K "_law_names" "_law_names" s_q8 f fd):FnOk P w K mg base CX0 2 f fd ["_law_purse_here","_law_most"] (z69 K):=by
 refine F.ok sc_law_names (fun vs H Q E h=>?_) (fun cdv A outer s H vs Q E hr h=>?_)
 ·obtain ⟨p,M,rfl,_⟩:=h
  rfl
 obtain ⟨p,M,rfl,hp,M1,M8,q⟩:=h
 refine ⟨_,pss_cons (ps_set (i:=2) sc_law_names.nd rfl (.inr rfl) pe_str)
  (pss_cons (ps_set (i:=3) sc_law_names.nd rfl (.inr rfl) (pe_join pe_str
   (pe_lc (own:=[("_law_k",11)]) (g:=gName 11) (tt:=tYes) (te:=tOp rIxS (tVar 2) (tCall z0v [] E0 (tCons (tVar 0) (tCons (tC (.int 26)) tNil)))) rfl sc_law_names.nd (pi_range1 rfl B.range (pa_cons pe_int pa_nil))
    (blkOk_by (N:=z36) (sc:=defScope s_q8) (by decide +kernel))
    (fun _ _ _ _ _=>pg_name (i:=11) sc_law_names.nd rfl (.inl rfl)) (fun _ _ _ _ _=>pts_nil)
    (fun _ _ _ _ _=>pe_ix ix_str (pv 2) (z00 GT hr rfl (pa_cons (pv 0) (pa_cons pe_int pa_nil))) (fun _ _=>rfl)))))
  (pss_cons (ps_set (i:=4) sc_law_names.nd rfl (.inl rfl) (pe_op op_add pe_int (z00 GT hr rfl (pa_cons (pv 0) (pa_cons (pv 1) pa_nil)))))
  (pss_cons (ps_set (i:=5) sc_law_names.nd rfl (.inl rfl) (z00 GT hr rfl (pa_cons (pv 0) (pa_cons (pv 4) pa_nil))))
  (pss_cons (ps_if (pt_cmpR op_eq (z00 GT hr rfl (pa_cons (pv 0) (pa_cons pe_int pa_nil))) pe_int (nomark _))
   (pss_one (ps_setLc (i:=6) (own:=[("_law_k",11)]) (g:=gName 11) (tt:=tYes) (te:=tSl rSlS (tVar 3) tNoPart (tPart (tOp (rI0 fun i j=>.int (i+j)) (tVar 11) (tC (.int 1))))) rfl sc_law_names.nd rfl rfl (sw_true rfl rfl rfl (by decide +kernel)) (pi_range1 rfl B.range (pa_cons (pv 4) pa_nil))
    (blkOk_by (N:=z36) (sc:=defScope s_q8) (by decide +kernel))
    (fun _ _ _ _ _=>pg_name (i:=11) sc_law_names.nd rfl (.inl rfl)) (fun _ _ _ _ _=>pts_nil)
    (fun _ _ _ _ _=>pe_slice sl_str (pv 3) po_none (po_some (pe_op op_add (pv 11) pe_int)))))
   (pss_cons (ps_set (i:=7) sc_law_names.nd rfl (.inr rfl) (pe_op op_add pe_int (z00 GT hr rfl (pa_cons (pv 0) (pa_cons pe_int pa_nil)))))
   (pss_cons (ps_set (i:=8) sc_law_names.nd rfl (.inr rfl) (z00 GT hr rfl (pa_cons (pv 0) (pa_cons (pv 7) pa_nil))))
   (pss_cons (ps_set (i:=9) sc_law_names.nd rfl (.inr rfl) (z00 GT hr rfl (pa_cons (pv 0) (pa_cons pe_int pa_nil))))
   (pss_cons (ps_setLc (i:=10) (own:=[("_law_k",11)]) (g:=gName 11) (tt:=tYes) (te:=tOp rIxS (tVar 2) (tOp (rI (fun _ j=>0 < j) fun i j=>.int (i % j)) (tOp (rI0 fun i j=>.int (i+j)) (tVar 9) (tOp (rI CMul fun i j=>.int (i*j)) (tC (.int 3)) (tVar 11))) (tC (.int 26)))) rfl sc_law_names.nd rfl rfl (sw_true rfl rfl rfl (by decide +kernel)) (pi_range1 rfl B.range (pa_cons (pv 4) pa_nil))
    (blkOk_by (N:=z36) (sc:=defScope s_q8) (by decide +kernel))
    (fun _ _ _ _ _=>pg_name (i:=11) sc_law_names.nd rfl (.inl rfl)) (fun _ _ _ _ _=>pts_nil)
    (fun _ _ _ _ _=>pe_ix ix_str (pv 2) (pe_op op_mod (pe_op op_add (pv 9) (pe_op op_mul pe_int (pv 11))) pe_int) (fun _ _=>rfl)))
   (pss_one (ps_setLc (i:=6) (own:=[("_law_sign",12)]) (g:=gName 12) (tt:=tYes) (te:=tOp (fun x y H Q=>∃ i j,x=.str i/\y=.str j/\i.length+j.length<=sizeLine/\Q (.str (i++j)) H) (tOp (fun x y H Q=>∃ i j,x=.str i/\y=.str j/\i.length+j.length<=sizeLine/\Q (.str (i++j)) H) (tSl rSlS (tVar 3) tNoPart (tPart (tVar 8))) (tVar 12)) (tSl rSlS (tVar 3) (tPart (tOp (rI0 fun i j=>.int (i+j)) (tVar 8) (tC (.int 1)))) (tPart (tVar 7)))) rfl sc_law_names.nd rfl rfl (sw_true rfl rfl rfl (by decide +kernel)) (pi_list (pv 10))
    (blkOk_by (N:=z36) (sc:=defScope s_q8) (by decide +kernel))
    (fun _ _ _ _ _=>pg_name (i:=12) sc_law_names.nd rfl (.inl rfl)) (fun _ _ _ _ _=>pts_nil)
    (fun _ _ _ _ _=>pe_op op_add_str (pe_op op_add_str (pe_slice sl_str (pv 3) po_none (po_some (pv 8))) (pv 12)) (pe_slice sl_str (pv 3) (po_some (pe_op op_add (pv 8) pe_int)) (po_some (pv 7)))))))))))
  (pss_one (ps_ret (pe_op op_cat (pe_slice sl_list (pv 6) (po_some (pv 5)) po_none) (pe_slice sl_list (pv 6) po_none (po_some (pv 5)))))))))),?_⟩
 refine ⟨⟨_,rfl⟩,8,rfl,by decide,by decide,fun D hD=>?_⟩
 have pD:p ≠ D:=hp.ne hD
 refine lc_it (walk_range (lo:=0) (n:=8)) (fun i H2=>SB [p,D] H H2/\PuG H2 p/\∃ cs:List Nat,cs.length=i/\(∀ c ∈ cs,97<=c/\c<=122)/\H2 D=some (.lst (cs.map fun c=>V.str ⟨#[c]⟩))) ⟨SB.new hD _,hp.new hD,[],rfl,by simp,upd_same⟩ (fun _ _ _ _=>trivial) (fun i x H2 H' hi h2 y=>?_) (fun H2 h2=>?_)
 ·obtain ⟨s2,p2,cs,cl,co,hD2⟩:=h2
  obtain ⟨rfl,rfl⟩:=y
  refine ⟨rfl,?_⟩
  refine ⟨_,rfl,?_⟩
  refine z79 (i:=0) rfl p2 (by decide) (by decide) fun r H3 r0 r26 s3 p3=>?_
  obtain ⟨n,rfl⟩:∃ n:Nat,r=(n:Int):=⟨r.toNat,by omega⟩
  obtain ⟨c,hc,hco⟩:=zb5 n (by omega)
  have hD3:=s3.keep _ _ hD2 (by simpa using fun z:D=p=>pD z.symm)
  refine ⟨_,_,c,rfl,rfl,z9n,z6j hc,_,hD3,?_,?_⟩
  ·rw [List.length_map]; exact small1000 (by omega)
  ·refine ⟨(s2.trans (s3.mono (by simp))).trans (SB.set hD3 (by simp) _),?_,cs++[c],by simp [cl],?_,?_⟩
   ·exact p3.keep (SB.set (ps:=[D]) hD3 (by simp) _) (by simpa using pD)
   ·intro d hd
    rcases List.mem_append.mp hd with hd | hd
    ·exact co d hd
    ·have:d=c:=by simpa using hd
     subst this; exact hco
   ·rw [upd_same,List.map_append]; rfl
 obtain ⟨s2,p2,cs,cl,co,hD2⟩:=h2
 have hb:=zb9 cs co
 rw [cl] at hb
 have s2':SB [p] H H2:=s2.drop2 hD
 have e1:(cs.map fun c=>V.str ⟨#[c]⟩)=(cs.map fun c=>(⟨#[c]⟩:Str)).map V.str:=by rw [List.map_map]; rfl
 rw [e1] at hD2
 refine ⟨_,D,cs.map fun c=>⟨#[c]⟩,rfl,rfl,.inl (SqL.of hD2),?_,?_⟩
 ·have:∀ cs:List Nat,((cs.map fun c=>(⟨#[c]⟩:Str)).map (·.length)).sum=cs.length:=by
   intro cs
   induction cs with
   | nil=>rfl
   | cons c r ih=>rw [List.map_cons,List.map_cons,List.sum_cons,ih]; show 1+r.length=r.length+1; omega
  rw [this,List.length_map,cl]
  decide +kernel
 clear hD2 e1
 generalize Txt.join (Str.ofString "") (cs.map fun c=>(⟨#[c]⟩:Str))=bs at hb
 refine ⟨_,rfl,_,rfl,p,(M:Int),rfl,p2,by omega,by omega,fun r3 H3 r30 r38 s3 p3=>?_⟩
 refine ⟨_,_,rfl,rfl,?_⟩
 obtain ⟨m,em,m1,mM⟩:∃ m:Nat,1+r3=(m:Int)/\1<=m/\m<=M:=⟨(1+r3).toNat,by omega,by omega,by omega⟩
 have m8:m<=8:=by omega
 refine ⟨_,rfl,_,rfl,p,(m:Int),by rw [<- em]; rfl,p3,by omega,by omega,fun r4 H4 r40 r4m s4 p4=>?_⟩
 obtain ⟨t,rfl⟩:∃ t:Nat,r4=(t:Int):=⟨r4.toNat,by omega⟩
 show tSeq _ _ _ [some (.ref p),some (.int (M:Int)),some (.str abc),some (.str bs),some (.int (1+r3)),some (.int (t:Int)),none,none,none,none,none,none,none] _
 rw [em]
 have s24:SB [p] H H4:=(s2'.trans s3).trans s4
 refine z79 (i:=0) rfl p4 (by decide) (by decide) fun r5 H5 r50 r53 s5 p5=>?_
 refine ⟨rfl,_,rfl,?_⟩
 have s25:=s24.trans s5
 -- the end: the names turned about
 have fin:∀ (σ:L2.St) (fa:Addr) (ks:List Str) (H6:Hp),σ[5]?=some (some (.int (t:Int)))->σ[6]?=some (some (.ref fa))->SB [p] H H6->PuG H6 p->H6 fa=some (.lst (ks.map V.str))->ks.length=m->(∀ k ∈ ks,z01 k)->ks.Nodup ->
   tRet (tOp rCat (tSl (rSlL K) (tVar 6) (tPart (tVar 5)) tNoPart) (tSl (rSlL K) (tVar 6) tNoPart (tPart (tVar 5)))) { nx:=fun _ H'=>Q .non H',rt:=Q } σ H6:=by
  intro σ fa ks H6 h4 h5 s6 p6 hfa kl kn knd
  refine ⟨_,h5,_,h4,_,rfl,fa,_,rfl,SqL.of hfa,fun l1 hl1=>?_⟩
  rw [z9d]
  have u1:=SB.new (ps:=[]) hl1 (.lst ((ks.drop t).map V.str))
  refine ⟨_,h5,_,h4,_,rfl,fa,_,rfl,SqL.of (u1.keep _ _ hfa nmn),fun l2 hl2=>?_⟩
  rw [zca]
  have u2:=SB.new (ps:=[]) hl2 (.lst ((ks.take t).map V.str))
  refine ⟨l1,l2,_,_,rfl,rfl,u2.keep _ _ upd_same nmn,upd_same,?_,fun l3 hl3=>?_⟩
  ·rw [List.length_map,List.length_map,List.length_drop,List.length_take]
   have:1000<=sizeLine:=by decide
   omega
  have u3:=SB.new (ps:=[]) hl3 (.lst ((ks.drop t).map V.str++(ks.take t).map V.str))
  have u13:=(u1.trans u2).trans u3
  refine q l3 (ks.drop t++ks.take t) _ (s6.trans u13.nil) (p6.sb u13) ?_ (by rw [upd_same,List.map_append]) ?_ ?_ ?_ (za9 t knd)
  ·exact s6.dom _ (u1.dom _ (u2.dom _ hl3))
  ·rw [List.length_append,List.length_drop,List.length_take]; omega
  ·rw [List.length_append,List.length_drop,List.length_take]; omega
  ·intro k hk
   rcases List.mem_append.mp hk with hk | hk
   ·exact kn k (List.mem_of_mem_drop hk)
   ·exact kn k (List.mem_of_mem_take hk)
 refine ite2 (fun cc=>?_) (fun cc=>?_)
 ·refine ⟨_,rfl,(m:Int),rfl,by omega,by omega,fun D2 hD2=>?_⟩
  have pD2:p ≠ D2:=p5.ne hD2
  refine lc_it (walk_range (lo:=0) (n:=(m:Int).toNat)) (fun i H6=>SB [D2] H5 H6/\∃ ks:List Str,ks.length=i/\((∀ k ∈ ks,z01 k)/\∀ (j:Nat) (k:Str),ks[j]?=some k->k.length=j+1)/\H6 D2=some (.lst (ks.map V.str))) ⟨SB.new hD2 _,[],rfl,⟨by simp,by simp⟩,upd_same⟩ (fun _ _ _ _=>trivial) (fun i x H6 H' hi h6 y=>?_) (fun H6 h6=>?_)
  ·obtain ⟨s6,ks,kl,kn,hD6⟩:=h6
   obtain ⟨rfl,rfl⟩:=y
   refine ⟨rfl,?_⟩
   refine ⟨_,rfl,_,rfl,_,_,rfl,rfl,_,rfl,bs,rfl,?_,_,hD6,?_,?_⟩
   ·rw [hb.len]; decide
   ·rw [List.length_map]; exact small1000 (by omega)
   ·have e:((0:Int)+(i:Nat)+1)=((i+1:Nat):Int):=by omega
    refine ⟨s6.trans (SB.set hD6 (by simp) _),ks++[_],by simp [kl],⟨fun k hk=>?_,fun j k hk=>?_⟩,by rw [upd_same,List.map_append]; rfl⟩
    ·rcases List.mem_append.mp hk with hk | hk
     ·exact kn.1 k hk
     ·have hk':k=cutS bs none (some ((0:Int)+(i:Nat)+1)):=by simpa using hk
      subst hk'
      rw [e]
      exact (hb.take (i+1)).name (by omega) (by omega)
    ·by_cases hj:j < ks.length
     ·rw [List.getElem?_append_left hj] at hk
      exact kn.2 j k hk
     ·rw [List.getElem?_append_right (by omega)] at hk
      obtain ⟨h0,hk'⟩:=List.getElem?_eq_some_iff.mp hk
      have h0':j=i:=by simp only [List.length_singleton] at h0; omega
      have hk2:cutS bs none (some ((0:Int)+(i:Nat)+1))=k:=by rw [<- hk']; simp
      rw [<- hk2,e,(hb.take (i+1)).len,h0']
      omega
  ·obtain ⟨s6,ks,kl,kn,hD6⟩:=h6
   exact fin _ D2 ks H6 rfl rfl (s25.trans (s6.drop hD2).nil) (p5.keep s6 (by simpa using pD2)) hD6 (by omega) kn.1 (z99 fun i j a h1 h2=>by have:=kn.2 i a h1; have:=kn.2 j a h2; omega)
 ·refine ⟨_,rfl,p,8,rfl,p5,by decide,by decide,fun r6 H6 r60 r68 s6 p6=>?_⟩
  refine ⟨_,_,rfl,rfl,?_⟩
  obtain ⟨lg,elg,lg1,lg8⟩:∃ m:Nat,1+r6=(m:Int)/\1<=m/\m<=8:=⟨(1+r6).toNat,by omega,by omega,by omega⟩
  refine ⟨_,rfl,_,rfl,p,(lg:Int),by rw [<- elg]; rfl,p6,by omega,by omega,fun r7 H7 r70 r7m s7 p7=>?_⟩
  obtain ⟨at_,rfl⟩:∃ t:Nat,r7=(t:Int):=⟨r7.toNat,by omega⟩
  refine z79 (i:=0) rfl p7 (by decide) (by decide) fun r8 H8 r80 r826 s8 p8=>?_
  have s28:=(s25.trans s6).trans (s7.trans s8)
  refine ⟨_,rfl,(m:Int),rfl,by omega,by omega,fun D2 hD2=>?_⟩
  have pD2:p ≠ D2:=p8.ne hD2
  refine lc_it (walk_range (lo:=0) (n:=(m:Int).toNat)) (fun i H9=>SB [D2] H8 H9/\∃ ks:List Str,ks.length=i/\((∀ k ∈ ks,Ltr k 1)/\∀ (j:Nat) (k:Str),ks[j]?=some k->k=⟨#[97+((r8+3*(j:Int)) % 26).toNat]⟩)/\H9 D2=some (.lst (ks.map V.str))) ⟨SB.new hD2 _,[],rfl,⟨by simp,by simp⟩,upd_same⟩ (fun _ _ _ _=>trivial) (fun i x H9 H' hi h9 y=>?_) (fun H9 h9=>?_)
  ·obtain ⟨s9,ks,kl,kn,hD9⟩:=h9
   obtain ⟨rfl,rfl⟩:=y
   refine ⟨rfl,?_⟩
   have g1:=Int.emod_nonneg (r8+3*((0:Int)+(i:Nat))) (b:=26) (by decide)
   have g2:=Int.emod_lt_of_pos (r8+3*((0:Int)+(i:Nat))) (b:=26) (by decide)
   obtain ⟨n,hn⟩:∃ n:Nat,(r8+3*((0:Int)+(i:Nat))) % 26=(n:Int):=⟨((r8+3*((0:Int)+(i:Nat))) % 26).toNat,by omega⟩
   obtain ⟨c,hc,hco⟩:=zb5 n (by omega)
   have hcn:c=97+n:=by have:=zfz n (by omega); rw [hc] at this; exact Option.some.inj this
   refine ⟨_,rfl,_,rfl,_,rfl,_,_,rfl,rfl,.inl ⟨by decide,by decide⟩,_,_,rfl,rfl,_,_,rfl,rfl,(by show (0:Int) < 26; decide),_,_,c,rfl,rfl,z9n,?_,_,hD9,?_,?_⟩
   ·show atI abc.cps.toList ((r8+3*((0:Int)+(i:Nat))) % 26)=some c
    rw [hn]; exact z6j hc
   ·rw [List.length_map]; exact small1000 (by omega)
   ·refine ⟨s9.trans (SB.set hD9 (by simp) _),ks++[⟨#[c]⟩],by simp [kl],⟨fun k hk=>?_,fun j k hk=>?_⟩,by rw [upd_same,List.map_append]; rfl⟩
    ·rcases List.mem_append.mp hk with hk | hk
     ·exact kn.1 k hk
     ·have hk':k=⟨#[c]⟩:=by simpa using hk
      subst hk'; exact Ltr.one hco
    ·by_cases hj:j < ks.length
     ·rw [List.getElem?_append_left hj] at hk
      exact kn.2 j k hk
     ·rw [List.getElem?_append_right (by omega)] at hk
      obtain ⟨h0,hk'⟩:=List.getElem?_eq_some_iff.mp hk
      have h0':j=i:=by simp only [List.length_singleton] at h0; omega
      have hk2:(⟨#[c]⟩:Str)=k:=by rw [<- hk']; simp
      rw [<- hk2,hcn,h0',show (r8+3*(i:Int)) % 26=(n:Int) by rw [<- hn,Int.zero_add]]
      rfl
  ·obtain ⟨s9,ks,kl,kn,hD9⟩:=h9
   have p9:=p8.keep s9 (by simpa using pD2)
   have s29:=s28.trans (s9.drop hD2).nil
   refine ⟨_,rfl,D2,rfl,⟨_,SqL.of hD9⟩,fun D3 hD3=>?_⟩
   have pD3:p ≠ D3:=p9.ne hD3
   have D23:D2 ≠ D3:=ne_of_none hD9 hD3
   refine lc_it (walk_list (xs:=ks.map V.str)) (fun i H10=>SB [D3] H9 H10/\∃ zs:List Str,zs.length=i/\((∀ k ∈ zs,z01 k)/\∀ (j:Nat) (k:Str),zs[j]?=some k->∃ sg,ks[j]?=some sg/\k=cutS bs none (some (at_:Int))++sg++cutS bs (some ((at_:Int)+1)) (some (1+r6)))/\H10 D3=some (.lst (zs.map V.str))) ⟨SB.new hD3 _,[],rfl,⟨by simp,by simp⟩,upd_same⟩ (fun i H10 hi h10=>SqL.of ((h10.1.drop hD3).keep _ _ hD9 nmn)) (fun i x H10 H' hi h10 y=>?_) (fun H10 h10=>?_)
   ·obtain ⟨s10,zs,zl,zn,hD10⟩:=h10
    obtain ⟨rfl,ex⟩:=y
    obtain ⟨sg,esg,rfl⟩:∃ sg,ks[i]?=some sg/\V.str sg=x:=by
     rw [List.getElem?_map] at ex
     cases hh:ks[i]? with
     | none=>rw [hh] at ex; cases ex
     | some sg=>rw [hh] at ex; exact ⟨sg,rfl,Option.some.inj ex⟩
    have hsg:=kn.1 sg (List.mem_of_getElem? esg)
    have hl1:=hb.take at_
    have hl2:=hb.cut (at_+1) lg
    have hal:=(hl1.append hsg).append hl2
    have il:zs.length<=1000:=by rw [List.length_map] at hi; omega
    refine ⟨rfl,?_⟩
    refine ⟨_,rfl,_,rfl,_,rfl,bs,rfl,by rw [hb.len]; decide,_,rfl,_,_,rfl,rfl,?_,_,rfl,_,rfl,_,_,rfl,rfl,_,rfl,_,rfl,_,rfl,bs,rfl,by rw [hb.len]; decide,_,_,rfl,rfl,?_,_,hD10,?_,?_⟩
    ·rw [hl1.len,hsg.len]
     have:1000<=sizeLine:=by decide
     omega
    ·have e:((at_:Int)+1)=((at_+1:Nat):Int):=by omega
     show (cutS bs none (some (at_:Int))++sg).length+(cutS bs (some ((at_:Int)+1)) (some (1+r6))).length<=sizeLine
     rw [e,elg,(hl1.append hsg).len,hl2.len]
     have:1000<=sizeLine:=by decide
     omega
    ·rw [List.length_map]; exact small1000 il
    ·refine ⟨s10.trans (SB.set hD10 (by simp) _),zs++[_],by simp [zl],⟨fun k hk=>?_,fun j k hk=>?_⟩,by rw [upd_same,List.map_append]; rfl⟩
     ·rcases List.mem_append.mp hk with hk | hk
      ·exact zn.1 k hk
      ·have hk':k=cutS bs none (some (at_:Int))++sg++cutS bs (some ((at_:Int)+1)) (some (1+r6)):=by simpa using hk
       subst hk'
       have e:((at_:Int)+1)=((at_+1:Nat):Int):=by omega
       rw [e,elg]
       exact hal.name (by omega) (by omega)
     ·by_cases hj:j < zs.length
      ·rw [List.getElem?_append_left hj] at hk
       exact zn.2 j k hk
      ·rw [List.getElem?_append_right (by omega)] at hk
       obtain ⟨h0,hk'⟩:=List.getElem?_eq_some_iff.mp hk
       have h0':j=i:=by simp only [List.length_singleton] at h0; omega
       refine ⟨sg,by rw [h0']; exact esg,?_⟩
       rw [<- hk']; simp
   ·obtain ⟨s10,zs,zl,zn,hD10⟩:=h10
    rw [List.length_map] at zl
    exact fin _ D3 zs H10 rfl rfl (s29.trans (s10.drop hD3).nil) (p9.keep s10 (by simpa using pD3)) hD10 (by omega) zn.1 (z99 fun i j a h1 h2=>by
     obtain ⟨s1,g1,e1⟩:=zn.2 i a h1
     obtain ⟨s2,g2,e2⟩:=zn.2 j a h2
     have em:=zfe (e1.symm.trans e2)
     rw [kn.2 i s1 g1,kn.2 j s2 g2] at em
     have em:97+((r8+3*(i:Int)) % 26).toNat=97+((r8+3*(j:Int)) % 26).toNat:=by simpa using em
     have i1:=(List.getElem?_eq_some_iff.mp h1).1
     have j1:=(List.getElem?_eq_some_iff.mp h2).1
     omega)
abbrev zf8:List Str:=["_law_pairs","_law_found","_law_tree","_law_many"]
theorem sc_law_tidy:FnScope zf8 ["_law_pairs"] (defScope z5p):=⟨rfl,rfl,rfl,by decide +kernel,rfl,by decide +kernel,by decide +kernel⟩
theorem z9f (B:BI mg) (F:Fun K "_law_tidy" "_law_tidy" z5p f fd):FnOk P w K mg base CX0 1 f fd ["_law_pairs"] (z5v K):=by
 refine F.ok sc_law_tidy (fun vs H Q E h=>?_) (fun cdv A outer s H vs Q E hr h=>?_)
 ·obtain ⟨a,xs,bs,rfl,_⟩:=h
  rfl
 obtain ⟨a,xs,as,rfl,hs,hba,hl,⟨C,ho⟩,q⟩:=h
 have hun2:=hunT hr
 refine ⟨_,pss_cons (ps_set (i:=1) sc_law_tidy.nd rfl (.inl rfl) (pe_lst pa_nil))
  (pss_cons (ps_for PassesOwn.never rfl (pi_list (pe_callB (zaj Gr.pEnc (by show A.units+3+110 < cLine; omega)) rfl B.sorted (by decide +kernel) (pa_cons (pv 0) pa_nil))) (pg_tup rfl (pgs_cons (pg_name (i:=2) sc_law_tidy.nd rfl (.inl rfl)) (pgs_cons (pg_name (i:=3) sc_law_tidy.nd rfl (.inl rfl)) pgs_nil)))
   (pss_cons (ps_if (PW.pt (pw_and (pt_cmpR (op_neD (by show A.units+3+64 < cLine; omega)) (pv 1) (pe_lst pa_nil) (nomark _)) (pw_and1 (pt_cmpR (op_eqD (by show A.units+3+64 < cLine; omega)) (pe_ix ix_tup (pe_ix ix_list (pv 1) (pe_un un_neg pe_int) (fun _ _=>rfl)) pe_int (fun _ _=>rfl)) (pv 2) (nomark _)))))
    (pss_one (ps_set (i:=3) sc_law_tidy.nd rfl (.inl rfl) (pe_op op_add (pv 3) (pe_ix ix_tup (pe_bm0 PySem.F.plainAttrs_list PySem.F.slot_list_pop PySem.F.type_list_pop mt_pop (pv 1)) pe_int (fun _ _=>rfl))))) pss_nil)
   (pss_one (ps_expr (pe_bm PySem.F.plainAttrs_list PySem.F.slot_list_append PySem.F.type_list_append mt_append (pv 1) (pa_cons (pe_tup (pa_cons (pv 2) (pa_cons (pv 3) pa_nil))) pa_nil))))))
  (pss_one (ps_ret (pe_callTy call_tuple_of rfl B.tuple boot_tuple (pa_cons (pv 1) pa_nil))))),?_⟩
 refine ⟨(by show 0<=sizeLine; decide),fun D hD=>?_⟩
 have t0:=SB.new (ps:=[]) hD (.lst [])
 have hD0:(upd H D (.lst [])) D=some (.lst []):=upd_same
 generalize hH0:upd H D (.lst [])=H0 at t0 hD0
 have hs0:SqL K H0 a xs\/SqT K H0 a xs:=hs.imp (fun h=>t0.sqL nmn h) fun h=>t0.sqT h
 refine ⟨_,rfl,a,_,as,rfl,hs0,hba.sb t0 Gr.noList_pEnc,Gr.pEnc_all _,Gr.pEnc_sortable _,by omega,fun p hp=>?_,fun p1 zs hp1 hz=>?_⟩
 ·have:=Gr.pEnc_depth p
  have:=(ho p hp).2.2
  omega
 have s1:=SB.new (ps:=[]) hp1 (.lst zs)
 have hz3:Bears K (upd H0 p1 (.lst zs)) Gr.pEnc zs (srtE Gr.pEnc as):=hz.sb s1 Gr.noList_pEnc
 have hD3:=s1.keep _ _ hD0 nmn
 have hl3:SqL K (upd H0 p1 (.lst zs)) p1 zs:=SqL.of upd_same
 have p1D:p1 ≠ D:=fun z=>by subst z; rw [hD0] at hp1; cases hp1
 generalize hH3:upd H0 p1 (.lst zs)=H3 at s1 hz3 hD3 hl3
 clear hz
 generalize hbs:srtE Gr.pEnc as=bs at hz3
 have bok:∀ p ∈ bs,z01 p.1.1/\p.1.2.Ok C/\p.1.2.deep<=18:=by
  intro p hp
  rw [<- hbs] at hp
  exact ho p ((z0t as).mem_iff.mp hp)
 have blen:bs.length<=1000:=by rw [<- hbs,(z0t as).length_eq]; exact hl
 have zl:=hz3.length
 refine ⟨p1,rfl,⟨zs,hl3⟩,?_⟩
 refine for_list (K:=K) (a:=p1) (xs:=zs) (fun i σ H2=>SB [D] H3 H2/\∃ acc o2 o3,σ=[some (.ref a),some (.ref D),o2,o3]/\H2 D=some (.lst acc)/\Bears K H2 Gr.pEnc acc (jn (bs.take i))) ⟨SB.refl,[],none,none,rfl,hD3,.nil⟩ (fun i σ H2 hi h2=>h2.1.sqL (by simpa using p1D) hl3) (fun i x σ H2 hx h2=>?_) (fun σ H2 h2=>?_)
 ·obtain ⟨s2,acc,o2,o3,rfl,hD2,hb2⟩:=h2
  obtain ⟨p,ep,hpd⟩:=hz3.get hx
  have pm:=List.mem_of_getElem? ep
  obtain ⟨ad,tx,ux,rfl,hsx,_,_,hdx⟩:=z0h hpd
  have al:=hb2.length
  have jl:=z4j (bs.take i)
  rw [List.length_take] at jl
  rw [z9s bs i p ep]
  have hdx2:Dp K H2 (.ref tx) (Gr.tEnc p.1):=z07 s2 _ _ (Gr.noList_tEnc _) hdx
  refine ⟨ad,_,rfl,s2.sqT hsx,rfl,_,_,rfl,_,_,rfl,rfl,?_⟩
  refine ⟨_,rfl,(by show 0<=sizeLine; decide),fun e0 he0=>?_⟩
  have t3:=SB.new (ps:=[D]) he0 (.lst [])
  have hD3:(upd H2 e0 (.lst [])) D=some (.lst acc):=by rw [upd_ne (ne_of_none hD2 he0)]; exact hD2
  have jd:∀ p ∈ jn (bs.take i),z01 p.1.1/\p.1.2.Ok C/\p.1.2.deep<=18:=by
   intro p hp
   obtain ⟨q2,hq2,e2⟩:=z1v _ p hp
   rw [<- e2]; exact bok q2 (List.mem_of_mem_take hq2)
  have hb3:=hb2.sb t3 Gr.noList_pEnc
  have hdx3:=z07 t3 _ _ (Gr.noList_tEnc _) hdx2
  have he0':(upd H2 e0 (.lst [])) e0=some (.lst []):=upd_same
  generalize hH4:upd H2 e0 (.lst [])=H4 at t3 hD3 hb3 hdx3 he0'
  refine ⟨.list ((jn (bs.take i)).map Gr.pEnc),.list [],Dp.lst (SqL.of hD3) hb3.dp,Dp.lst (SqL.of he0') .nil,Gr.shaped_rows ⟨C,jd⟩,by decide +kernel,_,rfl,?_⟩
  have s24:=s2.trans t3
  have app:∀ (us:List V) (js:List (Tr × Int)) (m:Int) (H5:Hp),SB [D] H4 H5->H5 D=some (.lst us)->Bears K H5 Gr.pEnc us js->us.length<=1000->z02 (jn (bs.take i)) p=js++[(p.1,m)] ->
    tDrop (tBM K "list" rAppend (tVar 1) (tCons (tTup (tCons (tVar 2) (tCons (tVar 3) tNil))) tNil)) { nx:=fun σ H2=>SB [D] H3 H2/\∃ acc o2 o3,σ=[some (.ref a),some (.ref D),o2,o3]/\H2 D=some (.lst acc)/\Bears K H2 Gr.pEnc acc (z02 (jn (bs.take i)) p),rt:=Q } [some (.ref a),some (.ref D),some (.ref tx),some (.int m)] H5:=by
   intro us js m H5 s5 hD5 hb5 hul e
   rw [e]
   refine ⟨_,rfl,.inl ⟨rfl,_,SqL.of hD5⟩,_,rfl,_,rfl,(by show 2<=sizeLine; decide),fun t ht=>?_⟩
   have t6:=SB.new (ps:=[D]) ht (.tup [.ref tx,.int m])
   have hD6:(upd H5 t (.tup [.ref tx,.int m])) D=some (.lst us):=by rw [upd_ne (ne_of_none hD5 ht)]; exact hD5
   refine ⟨D,us,_,rfl,rfl,hD6,small1000 hul,?_⟩
   have t7:=SB.set (ps:=[D]) hD6 (by simp) (.lst (us++[.ref t]))
   exact ⟨((s24.trans s5).trans t6).trans t7,_,_,_,rfl,upd_same,Bears.append ((hb5.sb t6 Gr.noList_pEnc).sb t7 Gr.noList_pEnc) (.cons (Dp.tup (t7.sqT (SqT.of upd_same)) (.cons (z07 ((s5.trans t6).trans t7) _ _ (Gr.noList_tEnc _) hdx3) (.cons (.int _) .nil))) .nil)⟩
  rcases List.eq_nil_or_concat (jn (bs.take i)) with he | ⟨js,z,he⟩
  ·rw [he] at hb3 app
   rw [he]
   cases hb3
   refine iteF (iteF ?_)
   exact app [] [] p.2 H4 SB.refl hD3 .nil (by simp) rfl
  ·rw [List.concat_eq_append] at he
   rw [he] at hb3 app jd
   rw [he]
   obtain ⟨us,u,rfl,hus,hu⟩:=hb3.snoc
   obtain ⟨az,tz,uz,rfl,hsz,_,_,hdz⟩:=z0h hu
   obtain ⟨zn,zo,zd⟩:=jd z (by simp)
   obtain ⟨pn,po,pd⟩:=bok p pm
   have e0:(!PyData.eqv (.list ((js++[z]).map Gr.pEnc)) (.list []))=true:=by
    cases js <;> simp [PyData.eqv,PyData.eqvAll]
   rw [e0]
   refine iteT ?_
   refine ⟨_,rfl,1,rfl,D,_,_,_,rfl,rfl,SqL.of hD3,z77,az,_,_,_,rfl,rfl,hsz,atI_nat (j:=0) rfl,_,rfl,Gr.tEnc z.1,Gr.tEnc p.1,hdz,hdx3,Gr.shaped_tEnc zn zo (by omega),Gr.shaped_tEnc pn po (by omega),_,rfl,?_⟩
   rw [Orderly.eq (enc:=Gr.tEnc)]
   have ul:us.length<=1000:=by rw [List.length_append] at al; omega
   by_cases hz:z.1=p.1
   ·rw [show decide (z.1=p.1)=true by simp [hz]]
    refine iteT ?_
    refine ⟨_,rfl,_,rfl,.inl ⟨rfl,_,SqL.of hD3⟩,D,_,_,rfl,rfl,hD3,(by simp:(us++[V.ref az])[(us++[V.ref az]).length-1]?=some (V.ref az)),?_⟩
    have ed:(us++[V.ref az]).dropLast=us:=by simp
    rw [ed]
    have t6:=SB.set (ps:=[D]) hD3 (by simp) (.lst us)
    refine ⟨az,_,_,_,rfl,rfl,t6.sqT hsz,atI_nat (j:=1) rfl,_,_,rfl,rfl,?_⟩
    refine app us js (p.2+z.2) _ t6 upd_same (hus.sb t6 Gr.noList_pEnc) ul ?_
    rw [z06,if_pos hz,Int.add_comm]
   ·rw [show decide (z.1=p.1)=false by simp [hz]]
    refine iteF ?_
    refine app _ (js++[z]) p.2 H4 SB.refl hD3 hb3 (by rw [List.length_append,List.length_singleton] at al ⊢; omega) ?_
    rw [z06,if_neg hz]
 ·obtain ⟨s2,acc,o2,o3,rfl,hD2,hb2⟩:=h2
  rw [zl,List.take_length] at hb2
  refine ⟨_,rfl,D,acc,rfl,.inl ⟨SqL.of hD2,fun t ht=>?_⟩⟩
  have t3:=SB.new (ps:=[]) ht (.tup acc)
  refine q _ _ ((((t0.trans s1).nil.trans s2).drop hD).trans t3) ?_
  have e:Gr.tidy as=Gr.ofPs (jn bs):=by rw [<- hbs]; rfl
  rw [e]
  exact z2i (SqT.of upd_same) (hb2.sb t3 Gr.noList_pEnc)
end
theorem z9q {α:Type} {j:Nat} {b:α} (h:([]:List α)[j]?=some b):False:=by simp at h
def sumN (f:Nat->Nat):Nat->Nat
 | 0=>0
 | n+1=>sumN f n+f n
theorem z3w {f g:Nat->Nat}:∀ {n:Nat},(∀ j,j < n->f j=g j)->sumN f n=sumN g n
 | 0,_=>rfl
 | n+1,h=>by show sumN f n+f n=sumN g n+g n; rw [z3w fun j hj=>h j (by omega),h n (by omega)]
theorem z66 {f:Nat->Nat} {i x:Nat}:∀ {n:Nat},i < n->sumN (fun j=>if j=i then x else f j) n+f i=sumN f n+x
 | 0,h=>by omega
 | n+1,h=>by
  show sumN (fun j=>if j=i then x else f j) n+(if n=i then x else f n)+f i=sumN f n+f n+x
  by_cases hn:n=i
  ·subst hn
   rw [if_pos rfl]
   have:sumN (fun j=>if j=n then x else f j) n=sumN f n:=z3w fun j hj=>if_neg (by omega)
   rw [this]; omega
  ·rw [if_neg hn]
   have:=z66 (f:=f) (x:=x) (n:=n) (i:=i) (by omega)
   omega
theorem z5j {f:Nat->Nat} {i:Nat}:∀ {n:Nat},i < n->f i<=sumN f n
 | 0,h=>by omega
 | n+1,h=>by
  show f i<=sumN f n+f n
  by_cases hn:n=i
  ·subst hn; omega
  ·have:=z5j (f:=f) (n:=n) (i:=i) (by omega); omega
abbrev Row:=Int × Str × Int
def rEnc (r:Row):PyData:=.tuple [.int r.1,.str r.2.1,.int r.2.2]
theorem z1f (r:Row):z03 (rEnc r)=true:=by simp [rEnc,z03,z05]
section
variable {P:Program} {w:World} {K:PySem.W.Frag} {mg:Str->Option Value} {base:Heap} {f:Addr} {fd:FuncData}
theorem zfq {H:Hp} {v:V} {r:Row} (h:Dp K H v (rEnc r)):∃ a,v=.ref a/\SqT K H a [.int r.1,.str r.2.1,.int r.2.2]:=by
 cases h with
 | tup hs ha =>
  cases ha with
  | cons h1 h2 =>
   cases h2 with
   | cons h3 h4 =>
    cases h4 with
    | cons h5 h6 =>
     cases h6; cases h1; cases h3; cases h5
     exact ⟨_,rfl,hs⟩
/-- rows that are right: each holder stands ahead,and none is deeper than l -/
structure Rows (ks:List Str) (c:Int) (l:Nat) (rows:List Row) (dl:List Nat):Prop where
 len:dl.length=rows.length
 ok:∀ (j:Nat) (r:Row),rows[j]?=some r->-1<=r.1/\r.1 < j/\(z01 r.2.1/\r.2.1 ∈ ks)/\1<=r.2.2/\r.2.2<=c
 dp:∀ (j:Nat) (r:Row) (d:Nat),rows[j]?=some r->dl[j]?=some d->1<=d/\d<=l/\(r.1=-1->d=1)/\(∀ h:Nat,r.1=(h:Int)->∃ e,dl[h]?=some e/\d=1+e)
abbrev ze4:List Str:=["_law_purse_here","_law_names_here","_law_many","_law_great","_law_low","_law_rows","_law_deep","_law_k","_law_holder","_law_kind","_law_count","_law_held","_law_tree"]
theorem sc_q12:FnScope ze4 ["_law_purse_here","_law_names_here","_law_many","_law_great","_law_low"] (defScope z3h):=⟨rfl,rfl,rfl,by decide +kernel,rfl,by decide +kernel,by decide +kernel⟩
theorem zgg (B:BI mg) (G_q13:Got P w K mg base "_law_take" ["_law_purse_here","_law_many"] (1) (z0v)) (G_q14:Got P w K mg base "_law_tidy" ["_law_pairs"] (1) (z5v K)) (F:Fun K "_law_side" "_law_side" z3h f fd):FnOk P w K mg base CX0 (2) f fd ["_law_purse_here","_law_names_here","_law_many","_law_great","_law_low"] (z8k K):=by
 refine F.ok sc_q12 (fun vs H Q E h=>?_) (fun cdv A outer s H vs Q E hr h=>?_)
 ·obtain ⟨p,n,ks,m,l,c,cc,rfl,_⟩:=h
  rfl
 obtain ⟨p,n,ks,m,l,c,cc,rfl,hp,hn,np,kl1,kl8,kn,hm,hl1,hl12,hc1,hc3,hcm,hcc,q⟩:=h
 have hun2:=hunT hr
 refine ⟨_,pss_cons (ps_set (i:=5) sc_q12.nd rfl (.inl rfl) (pe_lst pa_nil))
  (pss_cons (ps_set (i:=6) sc_q12.nd rfl (.inl rfl) (pe_lst pa_nil))
  (pss_cons (ps_for PassesOwn.never rfl (pi_range1 rfl B.range (pa_cons (pv 2) pa_nil)) (pg_name (i:=7) sc_q12.nd rfl (.inl rfl))
   (pss_cons (ps_set (i:=8) sc_q12.nd rfl (.inl rfl) (pe_op op_sub (z00 G_q13 (hr.mono (by omega)) rfl (pa_cons (pv 0) (pa_cons (pe_op op_add (pv 7) pe_int) pa_nil))) pe_int))
  (pss_cons (ps_if (PW.pt (pw_and (pt_cmpR op_ge (pv 8) pe_int (nomark _)) (pw_and1 (pt_cmpR op_ge (pe_ix ix_list (pv 6) (pv 8) (fun _ _=>rfl)) (pv 4) (nomark _))))) (pss_one (ps_set (i:=8) sc_q12.nd rfl (.inl rfl) (pe_un un_neg pe_int))) pss_nil)
  (pss_cons (ps_set (i:=9) sc_q12.nd rfl (.inl rfl) (pe_ix ix_list (pv 1) (z00 G_q13 (hr.mono (by omega)) rfl (pa_cons (pv 0) (pa_cons (pe_callB call_len_seq rfl B.len PySem.boot_len (pa_cons (pv 1) pa_nil)) pa_nil))) (fun _ _=>rfl)))
  (pss_cons (ps_set (i:=10) sc_q12.nd rfl (.inl rfl) (pe_op op_add pe_int (z00 G_q13 (hr.mono (by omega)) rfl (pa_cons (pv 0) (pa_cons (pe_ix ix_list (pe_lst (pa_cons pe_int (pa_cons pe_int (pa_cons pe_int (pa_cons (pv 3) pa_nil))))) (z00 G_q13 (hr.mono (by omega)) rfl (pa_cons (pv 0) (pa_cons pe_int pa_nil))) (fun _ _=>rfl)) pa_nil)))))
  (pss_cons (ps_expr (pe_bm PySem.F.plainAttrs_list PySem.F.slot_list_append PySem.F.type_list_append mt_append (pv 5) (pa_cons (pe_tup (pa_cons (pv 8) (pa_cons (pv 9) (pa_cons (pv 10) pa_nil)))) pa_nil)))
  (pss_one (ps_expr (pe_bm PySem.F.plainAttrs_list PySem.F.slot_list_append PySem.F.type_list_append mt_append (pv 6) (pa_cons (pe_op op_add pe_int (pe_ix ix_list (pe_op op_cat (pe_lst (pa_cons pe_int pa_nil)) (pv 6)) (pe_op op_add (pv 8) pe_int) (fun _ _=>rfl))) pa_nil))))))))))
  (pss_cons (ps_setLc (i:=11) (own:=[("_law_k",7)]) (g:=(gName 7)) (tt:=tYes) (te:=(tLst tNil)) rfl sc_q12.nd rfl rfl (sw_true rfl rfl rfl (by decide +kernel)) (pi_range1 rfl B.range (pa_cons (pe_op op_add (pv 2) pe_int) pa_nil)) (blkOk_by (N:=ze4) (sc:=defScope z3h) (by decide +kernel)) (fun _ _ _ _ _=>(pg_name (i:=7) sc_q12.nd rfl (.inl rfl))) (fun _ _ _ _ _=>pts_nil) (fun _ _ _ _ _=>(pe_lst pa_nil)))
  (pss_cons (ps_for PassesOwn.never rfl (pi_revR rfl B.reversed (prg_1 rfl B.range (pv 2))) (pg_name (i:=7) sc_q12.nd rfl (.inl rfl))
   (pss_cons (ps_asg (pe_ix ix_list (pv 5) (pv 7) (fun _ _=>rfl)) (pg_tup rfl (pgs_cons (pg_name (i:=8) sc_q12.nd rfl (.inl rfl)) (pgs_cons (pg_name (i:=9) sc_q12.nd rfl (.inl rfl)) (pgs_cons (pg_name (i:=10) sc_q12.nd rfl (.inl rfl)) pgs_nil)))))
  (pss_cons (ps_set (i:=12) sc_q12.nd rfl (.inl rfl) (pe_tup (pa_cons (pv 9) (pa_cons (z00 G_q14 (hr.mono (by omega)) rfl (pa_cons (pe_ix ix_list (pv 11) (pv 7) (fun _ _=>rfl)) pa_nil)) pa_nil))))
  (pss_one (ps_expr (pe_bm PySem.F.plainAttrs_list PySem.F.slot_list_append PySem.F.type_list_append mt_append (pe_ix ix_list (pv 11) (pv 8) (fun _ _=>rfl)) (pa_cons (pe_tup (pa_cons (pv 12) (pa_cons (pv 10) pa_nil))) pa_nil)))))))
  (pss_one (ps_ret (z00 G_q14 (hr.mono (by omega)) rfl (pa_cons (pe_ix ix_list (pv 11) (pv 2) (fun _ _=>rfl)) pa_nil)))))))),?_⟩
 have szl:=sizeLine_eq
 -- the two lists
 refine ⟨(by show 0<=sizeLine; decide),fun R hR=>?_⟩
 have t1:=SB.new (ps:=[]) hR (.lst [])
 refine z09 ?_
 refine ⟨(by show 0<=sizeLine; decide),fun G hG=>?_⟩
 have t2:=SB.new (ps:=[]) hG (.lst [])
 refine z09 ?_
 have RG:R ≠ G:=fun z=>by subst z; rw [upd_same] at hG; cases hG
 have hR0:(upd (upd H R (.lst [])) G (.lst [])) R=some (.lst []):=t2.keep _ _ upd_same nmn
 have hG0:(upd (upd H R (.lst [])) G (.lst [])) G=some (.lst []):=upd_same
 have t12:=t1.trans t2
 have GnH:H G=none:=t1.dom _ hG
 generalize hH0:upd (upd H R (.lst [])) G (.lst [])=H0 at t12 hR0 hG0
 have hp0:=hp.sb t12
 have hn0:=t12.keep _ _ hn nmn
 have nR:n ≠ R:=fun z=>by subst z; rw [hR] at hn; cases hn
 have nG:n ≠ G:=fun z=>by subst z; rw [GnH] at hn; cases hn
 have pR:p ≠ R:=hp.ne hR
 have pG:p ≠ G:=hp.ne GnH
 have Rp:R ∉ [p]:=by simpa using fun z:R=p=>pR z.symm
 have Gp:G ∉ [p]:=by simpa using fun z:G=p=>pG z.symm
 have npn:n ∉ [p]:=by simpa using np
 refine ⟨_,rfl,(m:Int),rfl,by omega,by omega,?_⟩
 refine for_range (n:=(m:Int).toNat) (fun i σ H2=>SB [p,R,G] H0 H2/\PuG H2 p/\∃ (us:List V) (rows:List Row) (dl:List Nat) (o7 o8 o9 o10:Option V),σ=[some (.ref p),some (.ref n),some (.int (m:Int)),some (.int c),some (.int (l:Int)),some (.ref R),some (.ref G),o7,o8,o9,o10,none,none]/\rows.length=i/\Rows ks cc l rows dl/\H2 R=some (.lst us)/\Bears K H2 rEnc us rows/\H2 G=some (.lst (dl.map fun d:Nat=>V.int (d:Int))))
  ⟨SB.refl,hp0,[],[],[],none,none,none,none,rfl,rfl,⟨rfl,fun j r h=>by simp at h,fun j r d h=>by simp at h⟩,hR0,.nil,hG0⟩ (fun i σ H2 hi h2=>?_) (fun σ H2 h2=>?_)
 ·obtain ⟨s2,p2,us,rows,dl,o7,o8,o9,o10,rfl,rl,hrow,hR2,hb2,hG2⟩:=h2
  have dll:=hrow.len
  have ul:=hb2.length
  have im:i < m:=by omega
  have hn2:H2 n=some (.lst (ks.map V.str)):=s2.keep _ _ hn0 (by simp [nR,nG,np])
  refine ⟨_,rfl,_,rfl,_,_,rfl,rfl,p,(i:Int)+1,by simp,p2,by omega,by omega,fun r H4 r0 ri s4 p4=>?_⟩
  refine ⟨_,_,rfl,rfl,?_⟩
  refine z09 ?_
  have hR4:=s4.keep _ _ hR2 Rp
  have hG4:=s4.keep _ _ hG2 Gp
  have hn4:=s4.keep _ _ hn2 npn
  refine z7e (fun σ' G'=>∃ hd:Int,σ'=[some (.ref p),some (.ref n),some (.int (m:Int)),some (.int c),some (.int (l:Int)),some (.ref R),some (.ref G),some (.int (0+(i:Nat))),some (.int hd),o9,o10,none,none]/\H4=G'/\-1<=hd/\hd < i/\(∀ h:Nat,hd=(h:Int)->∃ e,dl[h]?=some e/\e < l)) (fun nx hnx=>?_) (fun σ' G' h=>?_)
  ·refine ⟨_,rfl,_,_,rfl,rfl,_,rfl,?_⟩
   refine ite2 (fun cc=>?_) (fun cc=>?_)
   ·have cc':r-1 ≥ 0:=of_decide_eq_true cc
    obtain ⟨h,hh⟩:∃ h:Nat,r-1=(h:Int):=⟨(r-1).toNat,by omega⟩
    have hhl:h < dl.length:=by omega
    have hdh:dl[h]?=some dl[h]:=List.getElem?_eq_getElem hhl
    generalize dl[h]=d at hdh
    refine ⟨_,rfl,_,rfl,G,_,_,.int (d:Int),rfl,rfl,SqL.of hG4,?_,_,rfl,_,_,rfl,rfl,_,rfl,?_⟩
    ·rw [hh]; exact atI_nat (j:=h) (by rw [List.getElem?_map,hdh]; rfl)
    refine ite2 (fun cd=>?_) (fun cd=>?_)
    ·exact ⟨1,rfl,hnx _ _ ⟨-1,rfl,rfl,by omega,by omega,fun h hh=>by omega⟩⟩
    ·have cd':¬ (d:Int) ≥ (l:Int):=of_decide_eq_false (Bool.eq_false_iff.mpr cd)
     refine hnx _ _ ⟨r-1,rfl,rfl,by omega,by omega,fun h' hh'=>?_⟩
     have:h'=h:=by omega
     subst this
     exact ⟨d,hdh,by omega⟩
   ·have cc':¬ r-1 ≥ 0:=of_decide_eq_false (Bool.eq_false_iff.mpr cc)
    exact iteF (hnx _ _ ⟨r-1,rfl,rfl,by omega,by omega,fun h hh=>by omega⟩)
  obtain ⟨hd,rfl,rfl,hd1,hdi,hdd⟩:=h
  refine ⟨_,rfl,_,rfl,_,rfl,n,_,rfl,.inl (SqL.of hn4),p,_,rfl,p4,by rw [List.length_map]; omega,by rw [List.length_map]; omega,fun r5 H5 r50 r5k s5 p5=>?_⟩
  rw [List.length_map] at r5k
  obtain ⟨x5,rfl⟩:∃ x:Nat,r5=(x:Int):=⟨r5.toNat,by omega⟩
  have hn5:=s5.keep _ _ hn4 npn
  have hk5:ks[x5]?=some ks[x5]:=List.getElem?_eq_getElem (by omega)
  have hko:z01 ks[x5]/\ks[x5] ∈ ks:=⟨kn ks[x5] (List.getElem_mem ..),List.getElem_mem ..⟩
  generalize ks[x5]=kd at hk5 hko
  refine ⟨n,_,_,.str kd,rfl,rfl,SqL.of hn5,atI_nat (j:=x5) (by rw [List.getElem?_map,hk5]; rfl),?_⟩
  refine ⟨_,rfl,_,rfl,(by show 4<=sizeLine; decide),fun la hla=>?_⟩
  have u6:=SB.new (ps:=[]) hla (.lst [.int 1,.int 1,.int 2,.int c])
  refine ⟨_,rfl,p,4,rfl,p5.new hla,by decide,by decide,fun r6 H6 r60 r64 s6 p6=>?_⟩
  have lap:la ∉ [p]:=by simpa using fun z:la=p=>p5.ne hla z.symm
  have hla6:=s6.keep _ _ (show (upd H5 la (.lst [.int 1,.int 1,.int 2,.int c])) la=some _ from upd_same) lap
  obtain ⟨z,hz,z1,zc⟩:∃ z:Int,atI [V.int 1,V.int 1,V.int 2,V.int c] r6=some (.int z)/\1<=z/\z<=cc:=by
   have:r6=0\/r6=1\/r6=2\/r6=3:=by omega
   rcases this with h | h | h | h <;> subst h
   ·exact ⟨1,rfl,by omega,by omega⟩
   ·exact ⟨1,rfl,by omega,by omega⟩
   ·exact ⟨2,rfl,by omega,by omega⟩
   ·exact ⟨c,rfl,by omega,hcm⟩
  refine ⟨la,_,_,_,rfl,rfl,SqL.of hla6,hz,p,z,rfl,p6,z1,Int.lt_of_le_of_lt (Int.le_trans zc hcc) (by decide),fun r7 H7 r70 r7z s7 p7=>?_⟩
  refine ⟨_,_,rfl,rfl,?_⟩
  have s57:SB [p] H4 H7:=((s5.trans u6.nil).trans s6).trans s7
  have s27:SB [p] H2 H7:=s4.trans s57
  have hR7:=s57.keep _ _ hR4 Rp
  have hG7:=s57.keep _ _ hG4 Gp
  -- rows.append
  refine ⟨_,rfl,.inl ⟨rfl,_,SqL.of hR7⟩,_,rfl,_,rfl,_,rfl,(by show 3<=sizeLine; decide),fun tr htr=>?_⟩
  have u8:=SB.new (ps:=[]) htr (.tup [.int hd,.str kd,.int (1+r7)])
  have hR8:=u8.keep _ _ hR7 nmn
  refine ⟨R,us,_,rfl,rfl,hR8,small1000 (by omega),?_⟩
  have u9:=SB.set (ps:=[R,G]) hR8 (by simp) (.lst (us++[.ref tr]))
  have hG9:(upd (upd H7 tr (.tup [.int hd,.str kd,.int (1+r7)])) R (.lst (us++[.ref tr]))) G=some (.lst (dl.map fun d:Nat=>V.int (d:Int))):=by
   rw [upd_ne (fun z=>RG z.symm)]; exact u8.keep _ _ hG7 nmn
  have hR9:(upd (upd H7 tr (.tup [.int hd,.str kd,.int (1+r7)])) R (.lst (us++[.ref tr]))) R=some (.lst (us++[.ref tr])):=upd_same
  have hb9:Bears K (upd (upd H7 tr (.tup [.int hd,.str kd,.int (1+r7)])) R (.lst (us++[.ref tr]))) rEnc (us++[.ref tr]) (rows++[(hd,kd,1+r7)]) :=
   Bears.append (((hb2.sb s27 z1f).sb u8 z1f).sb u9 z1f) (.cons (Dp.tup (u9.sqT (SqT.of upd_same)) (.cons (.int _) (.cons (.str _) (.cons (.int _) .nil)))) .nil)
  have s29:SB [p,R,G] H2 (upd (upd H7 tr (.tup [.int hd,.str kd,.int (1+r7)])) R (.lst (us++[.ref tr]))):=((s27.mono (by simp)).trans u8.nil).trans (u9.mono (by simp))
  have p9:PuG (upd (upd H7 tr (.tup [.int hd,.str kd,.int (1+r7)])) R (.lst (us++[.ref tr]))) p:=((p7.sb u8).keep u9 (by simp [pR,pG]))
  generalize hH9:upd (upd H7 tr (.tup [.int hd,.str kd,.int (1+r7)])) R (.lst (us++[.ref tr]))=H9 at hG9 hR9 hb9 s29 p9
  -- deep.append
  refine ⟨_,rfl,.inl ⟨rfl,_,SqL.of hG9⟩,(by show 1<=sizeLine; decide),fun l1 hl1=>?_⟩
  have v1:=SB.new (ps:=[]) hl1 (.lst [.int 0])
  have hG10:=v1.keep _ _ hG9 nmn
  refine ⟨_,rfl,l1,G,_,_,rfl,rfl,upd_same,hG10,?_,fun l2 hl2=>?_⟩
  ·rw [List.length_map,List.length_singleton]
   have:1000<=sizeLine:=by decide
   omega
  have v2:=SB.new (ps:=[]) hl2 (.lst ([V.int 0]++dl.map fun d:Nat=>V.int (d:Int)))
  have v12:=v1.trans v2
  have hG11:=v12.keep _ _ hG9 nmn
  -- how deep the holder is
  obtain ⟨e,he,hel,he1,he2⟩:∃ e:Nat,atI ([V.int 0]++dl.map fun d:Nat=>V.int (d:Int)) (hd+1)=some (.int (e:Int))/\e < l/\(hd=-1->e=0)/\(∀ h:Nat,hd=(h:Int)->dl[h]?=some e):=by
   by_cases h0:hd=-1
   ·subst h0
    exact ⟨0,atI_nat (j:=0) rfl,by omega,fun _=>rfl,fun h hh=>by omega⟩
   ·obtain ⟨h,rfl⟩:∃ h:Nat,hd=(h:Int):=⟨hd.toNat,by omega⟩
    obtain ⟨e,he,hel⟩:=hdd h rfl
    refine ⟨e,?_,hel,fun z=>by omega,fun h' hh=>(show h'=h by omega) ▸ he⟩
    have:((h:Int)+1)=((h+1:Nat):Int):=by omega
    rw [this]
    exact atI_nat (j:=h+1) (by show (dl.map fun d:Nat=>V.int (d:Int))[h]?=_; rw [List.getElem?_map,he]; rfl)
  refine ⟨_,rfl,_,_,rfl,rfl,l2,_,_,_,rfl,rfl,SqL.of upd_same,he,_,_,rfl,rfl,G,_,_,rfl,rfl,hG11,?_,?_⟩
  ·rw [List.length_map]; exact small1000 (by omega)
  have v3:=SB.set (ps:=[p,R,G]) hG11 (by simp) (.lst ((dl.map fun d:Nat=>V.int (d:Int))++[.int (1+(e:Int))]))
  refine ⟨s2.trans (s29.trans (v12.nil.trans v3)),(p9.sb v12).keep (SB.set (ps:=[R,G]) hG11 (by simp) _) (by simp [pR,pG]),us++[.ref tr],rows++[(hd,kd,1+r7)],dl++[1+e],_,_,_,_,rfl,by simp [rl],?_,?_,?_,?_⟩
  ·refine ⟨by simp [dll],fun j r hj=>?_,fun j r d hj hdj=>?_⟩
   ·rw [List.getElem?_append] at hj
    by_cases hjl:j < rows.length
    ·rw [if_pos hjl] at hj; exact hrow.ok j r hj
    ·rw [if_neg hjl] at hj
     have hj0:j-rows.length=0:=by
      rcases Nat.eq_zero_or_pos (j-rows.length) with h | h
      ·exact h
      ·rw [List.getElem?_eq_none (by simp; omega)] at hj; cases hj
     rw [hj0] at hj
     have hr':(hd,kd,1+r7)=r:=by simpa using hj
     subst hr'
     exact ⟨hd1,by show hd < (j:Int); omega,hko,by show 1<=1+r7; omega,by show 1+r7<=cc; omega⟩
   ·rw [List.getElem?_append] at hj hdj
    by_cases hjl:j < rows.length
    ·rw [if_pos hjl] at hj
     rw [if_pos (by omega)] at hdj
     obtain ⟨a1,a2,a3,a4⟩:=hrow.dp j r d hj hdj
     refine ⟨a1,a2,a3,fun h hh=>?_⟩
     obtain ⟨e',he',hde⟩:=a4 h hh
     refine ⟨e',?_,hde⟩
     rw [List.getElem?_append,if_pos (List.getElem?_eq_some_iff.mp he').1]; exact he'
    ·rw [if_neg hjl] at hj
     rw [if_neg (by omega)] at hdj
     have hj0:j-rows.length=0:=by
      rcases Nat.eq_zero_or_pos (j-rows.length) with h | h
      ·exact h
      ·rw [List.getElem?_eq_none (by simp; omega)] at hj; cases hj
     rw [hj0] at hj
     rw [show j-dl.length=0 by omega] at hdj
     have hr':(hd,kd,1+r7)=r:=by simpa using hj
     have hd':1+e=d:=by simpa using hdj
     subst hr'; subst hd'
     refine ⟨by omega,by omega,fun z=>by have:=he1 z; omega,fun h hh=>⟨e,?_,rfl⟩⟩
     have:=he2 h hh
     rw [List.getElem?_append,if_pos (List.getElem?_eq_some_iff.mp this).1]; exact this
  ·rw [upd_ne RG]; exact v12.keep _ _ hR9 nmn
  ·exact hb9.sb (v12.nil.trans v3) z1f
  ·rw [upd_same,List.map_append]
   congr 2
 -- the second part
 obtain ⟨s2,hpu,us,rows,dl,o7,o8,o9,o10,rfl,rl,hrow,hR2,hb2,hG2⟩:=h2
 have rl:rows.length=m:=by omega
 have dll:=hrow.len
 have ul:=hb2.length
 have sH:SB [p] H H2:=by
  have s3:SB [p,R,G] H H2:=t12.nil.trans s2
  refine ⟨fun b o e nm=>s3.keep b o e fun z=>?_,s3.tups,s3.frzs,s3.dom⟩
  rcases List.mem_cons.mp z with z | z
  ·exact nm (by rw [z]; exact mcs ..)
  rcases List.mem_cons.mp z with z | z
  ·subst z; rw [hR] at e; cases e
  ·have z':b=G:=by simpa using z
   subst z'; rw [GnH] at e; cases e
 refine ⟨_,rfl,_,_,rfl,rfl,(m:Int)+1,rfl,by omega,by omega,fun D hD=>?_⟩
 refine lc_it (walk_range (lo:=0) (n:=((m:Int)+1).toNat)) (fun i H3=>SB [D] H2 H3/\∃ as:List Addr,as.length=i/\H3 D=some (.lst (as.map V.ref))/\(∀ j b,as[j]?=some b->H3 b=some (.lst [])/\H2 b=none/\b ≠ D)/\(∀ i j b,as[i]?=some b->as[j]?=some b->i=j)) ⟨SB.new hD _,([]:List Addr),rfl,upd_same,fun j b h=>(z9q h).elim,fun i j b h=>(z9q h).elim⟩ (fun _ _ _ _=>trivial) (fun i x H3 H' hi h3 y=>?_) (fun H3 h3=>?_)
 ·obtain ⟨s3,as,al,hD3,has,hinj⟩:=h3
  obtain ⟨rfl,rfl⟩:=y
  refine ⟨rfl,?_⟩
  refine ⟨(by show 0<=sizeLine; decide),fun e0 he0=>?_⟩
  have t4:=SB.new (ps:=[D]) he0 (.lst [])
  have hD4:(upd H' e0 (.lst [])) D=some (.lst (as.map V.ref)):=by rw [upd_ne (ne_of_none hD3 he0)]; exact hD3
  refine ⟨_,hD4,by rw [List.length_map]; exact small1000 (by omega),?_⟩
  have t5:=SB.set (ps:=[D]) hD4 (by simp) (.lst (as.map V.ref++[.ref e0]))
  have eD:e0 ≠ D:=fun z=>by subst z; rw [hD3] at he0; cases he0
  refine ⟨(s3.trans t4).trans t5,as++[e0],by simp [al],by rw [upd_same,List.map_append]; rfl,fun j b hj=>?_,fun i j b hi hj=>?_⟩
  ·rw [List.getElem?_append] at hj
   by_cases hjl:j < as.length
   ·rw [if_pos hjl] at hj
    obtain ⟨b1,b2,b3⟩:=has j b hj
    refine ⟨?_,b2,b3⟩
    rw [upd_ne b3,upd_ne (ne_of_none b1 he0)]; exact b1
   ·rw [if_neg hjl] at hj
    have hj0:j-as.length=0:=by
     rcases Nat.eq_zero_or_pos (j-as.length) with h | h
     ·exact h
     ·rw [List.getElem?_eq_none (by simp; omega)] at hj; cases hj
    rw [hj0] at hj
    have:e0=b:=by simpa using hj
    subst this
    exact ⟨by rw [upd_ne eD]; exact upd_same,s3.dom _ he0,eD⟩
  ·have key:∀ j,(as++[e0])[j]?=some b->(as[j]?=some b/\j < as.length)\/(j=as.length/\b=e0):=by
    intro j hj
    rw [List.getElem?_append] at hj
    by_cases hjl:j < as.length
    ·rw [if_pos hjl] at hj; exact .inl ⟨hj,hjl⟩
    ·rw [if_neg hjl] at hj
     have hj0:j-as.length=0:=by
      rcases Nat.eq_zero_or_pos (j-as.length) with h | h
      ·exact h
      ·rw [List.getElem?_eq_none (by simp; omega)] at hj; cases hj
     rw [hj0] at hj
     have:e0=b:=by simpa using hj
     exact .inr ⟨by omega,this.symm⟩
   rcases key i hi with ⟨h1,_⟩ | ⟨h1,h2⟩ <;> rcases key j hj with ⟨g1,_⟩ | ⟨g1,g2⟩
   ·exact hinj i j b h1 g1
   ·exfalso; have:=(has i b h1).1; rw [g2,he0] at this; cases this
   ·exfalso; have:=(has j b g1).1; rw [h2,he0] at this; cases this
   ·omega
 obtain ⟨s3,as,al,hD3,has,hinj⟩:=h3
 have al:as.length=m+1:=by omega
 have s3':=s3.drop hD
 have asD:∀ b ∈ as,b ≠ D:=fun b hb=>by
  obtain ⟨j,hj⟩:=List.mem_iff_getElem?.mp hb
  exact (has j b hj).2.2
 have Das:D ∉ as:=fun z=>asD D z rfl
 have asH:∀ b ∈ as,H2 b=none:=fun b hb=>by
  obtain ⟨j,hj⟩:=List.mem_iff_getElem?.mp hb
  exact (has j b hj).2.1
 have Ras:R ∉ as:=fun z=>by have:=asH R z; rw [hR2] at this; cases this
 have hR3:=s3'.keep _ _ hR2 nmn
 have hb3:=hb2.sb s3' z1f
 -- changes of the held lists are nothing to what stood ahead
 have sfin:∀ (H4:Hp),SB as H3 H4->SB [] H2 H4:=fun H4 s4=>by
  refine ⟨fun b o e nm=>s4.keep b o (s3'.keep b o e nmn) fun z=>?_,fun b x e=>s4.tups b x (s3'.tups b x e),fun b o u e=>s4.frzs b o u (s3'.frzs b o u e),fun b e=>s3'.dom b (s4.dom b e)⟩
  rw [asH b z] at e; cases e
 refine ⟨_,rfl,(m:Int),rfl,by decide,by decide,by omega,by omega,?_⟩
 refine for_it (walk_rangeC (lo:=0+((((m:Int)-0).toNat:Nat):Int)-1) (c:=-1) (n:=((m:Int)-0).toNat)) (fun i σ H4=>SB as H3 H4/\∃ (bf:Nat->List (Tr × Int)) (o7 o8 o9 o10 o12:Option V),σ=[some (.ref p),some (.ref n),some (.int (m:Int)),some (.int c),some (.int (l:Int)),some (.ref R),some (.ref G),o7,o8,o9,o10,some (.ref D),o12]/\(∀ j b,as[j]?=some b->(j < m-i\/j=m)->∃ vs,H4 b=some (.lst vs)/\Bears K H4 Gr.pEnc vs (bf j))/\sumN (fun j=>Gr.tot (bf j)) (m+1)<=i/\(∀ j p,p ∈ bf j->z01 p.1.1/\p.1.2.Ok (60*cc+1)/\1<=p.2/\p.2<=cc/\p.1.2.deep+1+(if j=m then 0 else dl.getD j 0)<=l/\p.1.1 ∈ ks/\∀ x ∈ p.1.2.within,x.1.1 ∈ ks)/\(i=m->1<=m->bf m ≠ []))
  ⟨SB.refl,fun _=>[],_,_,_,_,_,rfl,fun j b hj _=>⟨[],(has j b hj).1,.nil⟩,?_,fun j p hp=>(by cases hp),fun h0 h1=>by omega⟩ (fun _ _ _ _ _=>trivial) (fun i x σ H4 H' hi h4 y=>?_) (fun σ H4 h4=>?_)
 ·have:∀ n,sumN (fun _=>Gr.tot []) n=0:=by
   intro n
   induction n with
   | zero=>rfl
   | succ n ih=>show sumN _ n+0=0; rw [ih]
  rw [this]; exact Nat.le_refl _
 ·obtain ⟨s4,bf,o7,o8,o9,o10,o12,rfl,hbf,hsum,hok,_⟩:=h4
  obtain ⟨rfl,rfl⟩:=y
  have im:i < m:=by omega
  obtain ⟨k,ek,hkm⟩:∃ k:Nat,(0+((((m:Int)-0).toNat:Nat):Int)-1+(i:Nat)*(-1))=(k:Int)/\k+i+1=m:=⟨m-1-i,by omega,by omega⟩
  show gName 7 (V.int (0+((((m:Int)-0).toNat:Nat):Int)-1+(i:Nat)*(-1))) _ _ _
  rw [ek]
  have hR4:=s4.keep _ _ hR3 Ras
  have hD4:=s4.keep _ _ hD3 Das
  have huk:us[k]?=some us[k]:=List.getElem?_eq_getElem (by omega)
  obtain ⟨row,erow,hrd⟩:=hb3.get huk
  obtain ⟨ra,era,hra⟩:=zfq hrd
  rw [era] at huk
  obtain ⟨ok1,ok2,ok3,ok4,ok5⟩:=hrow.ok k row erow
  have hdk:dl[k]?=some dl[k]:=List.getElem?_eq_getElem (by omega)
  obtain ⟨dp1,dp2,dp3,dp4⟩:=hrow.dp k row dl[k] erow hdk
  have hdk2:dl.getD k 0=dl[k]:=by rw [List.getD_eq_getElem?_getD,hdk]; rfl
  generalize dl[k]=d at hdk dp1 dp2 dp3 dp4 hdk2
  refine ⟨_,rfl,_,rfl,R,us,_,_,rfl,rfl,SqL.of hR4,atI_nat huk,ra,_,rfl,s4.sqT hra,rfl,_,_,rfl,_,_,rfl,_,_,rfl,rfl,?_⟩
  -- what is held
  have hak:as[k]?=some as[k]:=List.getElem?_eq_getElem (by omega)
  obtain ⟨vs,hvs,hbvs⟩:=hbf k as[k] hak (.inl (by omega))
  have tk:Gr.tot (bf k)<=i:=Nat.le_trans (z5j (f:=fun j=>Gr.tot (bf j)) (n:=m+1) (by omega)) hsum
  have lk:=Gr.len_tot (bf k)
  refine ⟨_,rfl,_,rfl,_,rfl,D,_,_,_,rfl,rfl,SqL.of hD4,atI_nat (j:=k) (by rw [List.getElem?_map,hak]; rfl),as[k],vs,bf k,rfl,.inl (SqL.of hvs),hbvs,by omega,⟨60*cc+1,fun p hp=>by have:=hok k p hp; exact ⟨this.1,this.2.1,by have:=this.2.2.2.2.1; omega⟩⟩,fun gv H5 s5 hg=>?_⟩
  have gok:(Gr.tidy (bf k)).Ok (60*cc+1):=by
   refine Gr.tidy_ok (C:=60*cc+1) (fun p hp=>by have:=hok k p hp; exact ⟨this.1,this.2.1,this.2.2.1⟩) ?_ (Int.le_refl _)
   have h1:=z6y (bs:=bf k) (C:=cc) fun p hp=>(hok k p hp).2.2.2.1
   have h2:((bf k).length:Int)*cc<=60*cc:=Int.mul_le_mul_of_nonneg_right (by omega) (by omega)
   omega
  have gdp:(Gr.tidy (bf k)).deep<=l-d:=Gr.tidy_deep fun p hp=>by
   have:=(hok k p hp).2.2.2.2.1
   rw [if_neg (by omega),hdk2] at this
   omega
  have gpt:=Gr.tidy_parts (bf k)
  have gin:∀ x ∈ (Gr.tidy (bf k)).within,x.1.1 ∈ ks:=z96 (Pd:=fun n=>n ∈ ks) fun p hp=>(hok k p hp).2.2.2.2.2
  generalize Gr.tidy (bf k)=g at hg gok gdp gpt gin
  refine ⟨(by show 2<=sizeLine; decide),fun tt htt=>?_⟩
  have t6:=SB.new (ps:=[]) htt (.tup [.str row.2.1,gv])
  have s56:=s5.trans t6
  have hD6:=s56.keep _ _ hD4 nmn
  have htd:Dp K (upd H5 tt (.tup [.str row.2.1,gv])) (.ref tt) (Gr.tEnc (row.2.1,g)):=Dp.tup (SqT.of upd_same) (.cons (.str _) (.cons (hg.sb t6) .nil))
  generalize hH6:upd H5 tt (.tup [.str row.2.1,gv])=H6 at t6 s56 hD6 htd
  -- the holder's list
  obtain ⟨jp,hjp,hjpk,hjm,hdj⟩:∃ jp:Nat,atI (as.map V.ref) row.1=((as[jp]?).map V.ref)/\(jp < k\/jp=m)/\jp<=m/\d=1+(if jp=m then 0 else dl.getD jp 0):=by
   by_cases h0:row.1=-1
   ·refine ⟨m,?_,.inr rfl,Nat.le_refl _,?_⟩
    ·rw [h0]
     unfold atI ixN
     rw [if_neg (by decide),if_pos (by rw [List.length_map,al]; omega)]
     rw [List.length_map,al,<- List.getElem?_map]
     show (as.map V.ref)[((((m+1:Nat):Int)+-1)).toNat]?=_
     rw [show ((((m+1:Nat):Int)+-1)).toNat=m by omega]
    ·rw [if_pos rfl]; have:=dp3 h0; omega
   ·obtain ⟨h,hh⟩:∃ h:Nat,row.1=(h:Int):=⟨row.1.toNat,by omega⟩
    obtain ⟨e,he,hde⟩:=dp4 h hh
    refine ⟨h,?_,.inl (by omega),by omega,?_⟩
    ·rw [hh]
     have hah:as[h]?=some as[h]:=List.getElem?_eq_getElem (by omega)
     rw [hah]
     exact atI_nat (j:=h) (by rw [List.getElem?_map,hah]; rfl)
    ·rw [if_neg (by omega),List.getD_eq_getElem?_getD,he]
     exact hde
  have haj:as[jp]?=some as[jp]:=List.getElem?_eq_getElem (by omega)
  rw [haj] at hjp
  have jpk:jp ≠ k:=by omega
  obtain ⟨ws,hws,hbws⟩:=hbf jp as[jp] haj (by omega)
  have tj:Gr.tot (bf jp)<=i:=Nat.le_trans (z5j (f:=fun j=>Gr.tot (bf j)) (n:=m+1) (by omega)) hsum
  have lj:=Gr.len_tot (bf jp)
  have wl:=hbws.length
  have hws6:=s56.keep _ _ hws nmn
  refine ⟨_,rfl,_,rfl,D,_,_,_,rfl,rfl,SqL.of hD6,hjp,.inl ⟨rfl,_,SqL.of hws6⟩,_,rfl,_,rfl,(by show 2<=sizeLine; decide),fun pp hpp=>?_⟩
  have t7:=SB.new (ps:=[]) hpp (.tup [.ref tt,.int row.2.2])
  have hws7:=t7.keep _ _ hws6 nmn
  refine ⟨as[jp],ws,_,rfl,rfl,hws7,small1000 (by omega),?_⟩
  have t8:=SB.set (ps:=as) hws7 (List.getElem_mem ..) (.lst (ws++[.ref pp]))
  have s48:SB as H' (upd (upd H6 pp (.tup [.ref tt,.int row.2.2])) as[jp] (.lst (ws++[.ref pp]))):=(s56.trans t7).nil.trans t8
  have s68:SB as H6 (upd (upd H6 pp (.tup [.ref tt,.int row.2.2])) as[jp] (.lst (ws++[.ref pp]))):=t7.nil.trans t8
  obtain ⟨bf',b1,b2,b3⟩:∃ bf':Nat->List (Tr × Int),bf' jp=bf jp++[((row.2.1,g),row.2.2)]/\bf' k=[]/\(∀ j,j ≠ jp->j ≠ k->bf' j=bf j) :=
   ⟨fun j=>if j=jp then bf jp++[((row.2.1,g),row.2.2)] else if j=k then [] else bf j,if_pos rfl,
    by show (if k=jp then _ else if k=k then [] else bf k)=[]; rw [if_neg (fun z=>jpk z.symm),if_pos rfl],
    fun j h1 h2=>by show (if j=jp then _ else if j=k then [] else bf j)=bf j; rw [if_neg h1,if_neg h2]⟩
  refine ⟨s4.trans s48,bf',_,_,_,_,_,rfl,fun j b hj hjj=>?_,?_,fun j p hp=>?_,fun h0 h1=>?_⟩
  ·by_cases hq:j=jp
   ·subst hq
    rw [haj] at hj
    have hb':as[j]=b:=Option.some.inj hj
    subst hb'
    rw [b1]
    exact ⟨_,upd_same,Bears.append (hbws.sb s48 Gr.noList_pEnc) (.cons (Dp.tup (t8.sqT (SqT.of upd_same)) (.cons (z07 s68 _ _ (Gr.noList_tEnc _) htd) (.cons (.int _) .nil))) .nil)⟩
   ·have hjk:j ≠ k:=by omega
    rw [b3 j hq hjk]
    obtain ⟨xs,hxs,hbxs⟩:=hbf j b hj (by omega)
    have hne:b ≠ as[jp]:=fun z=>hq (hinj j jp b hj (by rw [haj,z]))
    refine ⟨xs,?_,hbxs.sb s48 Gr.noList_pEnc⟩
    rw [upd_ne hne]
    exact (s56.trans t7).keep _ _ hxs nmn
  ·have e1:=z66 (f:=fun j=>Gr.tot (bf j)) (i:=k) (x:=0) (n:=m+1) (by omega)
   have e2:=z66 (f:=fun j=>if j=k then 0 else Gr.tot (bf j)) (i:=jp) (x:=Gr.tot (bf jp++[((row.2.1,g),row.2.2)])) (n:=m+1) (by omega)
   have e3:sumN (fun j=>Gr.tot (bf' j)) (m+1)=sumN (fun j=>if j=jp then Gr.tot (bf jp++[((row.2.1,g),row.2.2)]) else if j=k then 0 else Gr.tot (bf j)) (m+1):=z3w fun j _=>by
    by_cases h1:j=jp
    ·rw [if_pos h1,h1,b1]
    ·rw [if_neg h1]
     by_cases h2:j=k
     ·rw [if_pos h2,h2,b2]; rfl
     ·rw [if_neg h2,b3 j h1 h2]
   rw [e3]
   have e2':sumN (fun j=>if j=jp then Gr.tot (bf jp++[((row.2.1,g),row.2.2)]) else if j=k then 0 else Gr.tot (bf j)) (m+1)+(if jp=k then 0 else Gr.tot (bf jp))=sumN (fun j=>if j=k then 0 else Gr.tot (bf j)) (m+1)+Gr.tot (bf jp++[((row.2.1,g),row.2.2)]):=e2
   rw [if_neg jpk] at e2'
   have e4:Gr.tot (bf jp++[((row.2.1,g),row.2.2)])=Gr.tot (bf jp)+(1+g.parts):=by rw [Gr.tot_append]; rfl
   have e1':sumN (fun j=>if j=k then 0 else Gr.tot (bf j)) (m+1)+Gr.tot (bf k)=sumN (fun j=>Gr.tot (bf j)) (m+1)+0:=e1
   rw [e4] at e2' ⊢
   omega
  ·by_cases hq:j=jp
   ·subst hq
    rw [b1] at hp
    rcases List.mem_append.mp hp with hp | hp
    ·exact hok j p hp
    ·have:p=((row.2.1,g),row.2.2):=by simpa using hp
     subst this
     exact ⟨ok3.1,gok,ok4,ok5,(by show g.deep+1+_<=l; omega),ok3.2,gin⟩
   ·by_cases h2:j=k
    ·rw [h2,b2] at hp; cases hp
    ·rw [b3 j hq h2] at hp; exact hok j p hp
  ·have:jp=m:=by omega
   rw [<- this,b1]; simp
 ·obtain ⟨s4,bf,o7,o8,o9,o10,o12,rfl,hbf,hsum,hok,hfull⟩:=h4
  have hD4:=s4.keep _ _ hD3 Das
  have ham:as[m]?=some as[m]:=List.getElem?_eq_getElem (by omega)
  obtain ⟨vs,hvs,hbvs⟩:=hbf m as[m] ham (.inr rfl)
  have tm:Gr.tot (bf m)<=m:=by
   have:=z5j (f:=fun j=>Gr.tot (bf j)) (n:=m+1) (i:=m) (by omega)
   have h2:((m:Int)-0).toNat=m:=by omega
   rw [h2] at hsum
   exact Nat.le_trans this hsum
  have lm:=Gr.len_tot (bf m)
  refine ⟨_,rfl,_,rfl,D,_,_,_,rfl,rfl,SqL.of hD4,atI_nat (j:=m) (by rw [List.getElem?_map,ham]; rfl),as[m],vs,bf m,rfl,.inl (SqL.of hvs),hbvs,by omega,⟨60*cc+1,fun p hp=>by have:=hok m p hp; exact ⟨this.1,this.2.1,by have:=this.2.2.2.2.1; omega⟩⟩,fun gv H5 s5 hg=>?_⟩
  refine q gv _ H5 ((sH.trans (sfin H4 s4).nil).trans s5.nil) ((hpu.sb (sfin H4 s4)).sb s5) hg ?_ ?_ ?_ (z96 (Pd:=fun n=>n ∈ ks) fun p hp=>(hok m p hp).2.2.2.2.2) (fun h1=>Gr.tidy_full (hfull (by omega) h1))
  ·refine (Gr.tidy_ok (C:=60*cc+1) (D:=60*cc+1) (fun p hp=>by have:=hok m p hp; exact ⟨this.1,this.2.1,this.2.2.1⟩) ?_ (Int.le_refl _)).mono (by omega)
   have h1:=z6y (bs:=bf m) (C:=cc) fun p hp=>(hok m p hp).2.2.2.1
   have h2:((bf m).length:Int)*cc<=60*cc:=Int.mul_le_mul_of_nonneg_right (by omega) (by omega)
   omega
  ·have:=Gr.tidy_parts (bf m); omega
  ·refine Gr.tidy_deep fun p hp=>?_
   have:=(hok m p hp).2.2.2.2.1
   rw [if_pos rfl] at this
   omega
end
theorem zir {i:Nat} {x:V} {σ:L2.St} {H:Hp} {Q:L2.St->Hp->Prop} (h:Q (σ.set i (some x)) H):gName i x σ H Q:=h
section
variable {P:Program} {w:World} {K:PySem.W.Frag} {mg:Str->Option Value} {base:Heap} {f:Addr} {fd:FuncData}
abbrev N_q7:List Str:=["_law_script","_law_first","_law_names_here","_law_great","_law_rounds","_law_found","_law_k","_law_name","_law_purse_here","_law_some","_law_rules","_law_spreads","_law_j","_law_many","_law_once"]
theorem sc_q7:FnScope N_q7 ["_law_script","_law_first","_law_names_here","_law_great","_law_rounds"] (defScope s_q7):=⟨rfl,rfl,rfl,by decide +kernel,rfl,by decide +kernel,by decide +kernel⟩
theorem zjb (B:BI mg) (G_q10:Got P w K mg base "_law_purse" ["_law_script","_law_k"] (1) (z21 K)) (G_q13:Got P w K mg base "_law_take" ["_law_purse_here","_law_many"] (1) (z0v)) (G_q12:Got P w K mg base "_law_side" ["_law_purse_here","_law_names_here","_law_many","_law_great","_law_low"] (2) (z8k K)) (F:Fun K "_law_kinds" "_law_kinds" s_q7 f fd):FnOk P w K mg base CX0 (3) f fd ["_law_script","_law_first","_law_names_here","_law_great","_law_rounds"] (z6f K):=by
 refine F.ok sc_q7 (fun vs H Q E h=>?_) (fun cdv A outer s H vs Q E hr h=>?_)
 ·obtain ⟨a,f0,nl,ns,ks,c,cc,rd,rfl,_⟩:=h
  rfl
 obtain ⟨a,f0,nl,ns,ks,c,cc,rd,rfl,⟨hs,h63,hf⟩,⟨hn,kl1,kl8,knd,kok⟩,hc1,hc2,hcc,hcm,q⟩:=h
 have hun2:=hunT hr
 refine ⟨_,pss_cons (ps_set (i:=5) sc_q7.nd rfl (.inl rfl) (pe_lst pa_nil))
  (pss_cons (ps_for PassesOwn.never rfl (pi_enum rfl B.enumerate (pa_cons (pv 2) pa_nil)) (pg_tup rfl (pgs_cons (pg_name (i:=6) sc_q7.nd rfl (.inl rfl)) (pgs_cons (pg_name (i:=7) sc_q7.nd rfl (.inl rfl)) pgs_nil)))
   (pss_cons (ps_set (i:=8) sc_q7.nd rfl (.inl rfl) (z00 G_q10 (hr.mono (by omega)) rfl (pa_cons (pv 0) (pa_cons (pe_op op_add (pv 1) (pv 6)) pa_nil))))
  (pss_cons (ps_set (i:=9) sc_q7.nd rfl (.inl rfl) (pe_slice sl_list (pv 2) (po_some (pe_op op_add (pv 6) pe_int)) po_none))
  (pss_cons (ps_if (pt_val (pv 4)) (pss_one (ps_set (i:=9) sc_q7.nd rfl (.inl rfl) (pv 2))) pss_nil)
  (pss_cons (ps_set (i:=10) sc_q7.nd rfl (.inl rfl) (pe_lst pa_nil))
  (pss_cons (ps_set (i:=11) sc_q7.nd rfl (.inl rfl) (pe_cmpR op_eq (z00 G_q13 (hr.mono (by omega)) rfl (pa_cons (pv 8) (pa_cons pe_int pa_nil))) pe_int (nomark _)))
  (pss_cons (ps_for PassesOwn.never rfl (pi_range1 rfl B.range (pa_cons (pe_op op_mul (z00 G_q13 (hr.mono (by omega)) rfl (pa_cons (pv 8) (pa_cons pe_int pa_nil))) (pe_callTy call_int1 rfl B.int boot_int (pa_cons (pe_cmpR (op_neD (by show A.units+3+64 < cLine; omega)) (pv 9) (pe_lst pa_nil) (nomark _)) pa_nil))) pa_nil)) (pg_name (i:=12) sc_q7.nd rfl (.inl rfl))
   (pss_cons (ps_set (i:=13) sc_q7.nd rfl (.inl rfl) (z00 G_q13 (hr.mono (by omega)) rfl (pa_cons (pv 8) (pa_cons pe_int pa_nil))))
  (pss_cons (ps_set (i:=14) sc_q7.nd rfl (.inl rfl) (z00 G_q13 (hr.mono (by omega)) rfl (pa_cons (pv 8) (pa_cons (pe_op op_add (pv 13) pe_int) pa_nil))))
  (pss_one (ps_expr (pe_bm PySem.F.plainAttrs_list PySem.F.slot_list_append PySem.F.type_list_append mt_append (pv 10) (pa_cons (pe_tup (pa_cons (z00 G_q12 (hr.mono (by omega)) rfl (pa_cons (pv 8) (pa_cons (pv 9) (pa_cons (pv 14) (pa_cons (pv 3) (pa_cons pe_int pa_nil)))))) (pa_cons (z00 G_q12 (hr.mono (by omega)) rfl (pa_cons (pv 8) (pa_cons (pv 9) (pa_cons (pe_op op_sub (pv 13) (pv 14)) (pa_cons (pv 3) (pa_cons pe_int pa_nil)))))) pa_nil))) pa_nil)))))))
  (pss_one (ps_expr (pe_bm PySem.F.plainAttrs_list PySem.F.slot_list_append PySem.F.type_list_append mt_append (pv 5) (pa_cons (pe_tup (pa_cons (pv 7) (pa_cons (pv 11) (pa_cons (pv 10) pa_nil)))) pa_nil)))))))))))
  (pss_one (ps_ret (pv 5)))),?_⟩
 have szl:=sizeLine_eq
 refine ⟨by show 0<=sizeLine; decide,fun K0 nK0=>?_⟩
 have t1:=SB.new (ps:=[]) nK0 (.lst [])
 have hK1:upd H K0 (.lst []) K0=some (.lst []):=upd_same
 have hn1:=t1.keep _ _ hn nmn
 have nK:nl ≠ K0:=ne_of_none hn nK0
 generalize upd H K0 (.lst [])=H1 at t1 hK1 hn1
 have hsn:∀ H2,SB [K0] H1 H2->SqL K H2 a (ns.map V.int):=fun H2 s2=>((t1.nil.trans s2).drop nK0).sqL nmn hs
 refine z09 ?_
 refine ⟨_,rfl,nl,_,rfl,SqL.of hn1,?_⟩
 let goodR:Str->Ru->Prop:=fun n r=>(r.1.Ok (60*cc+1)/\r.1.deep<=3)/\(r.2.Ok (60*cc+1)/\r.2.deep<=3)/\r.1.parts+r.2.parts<=4/\(∀ x ∈ Ru.within r,x.1.1 ∈ ks)/\(rd=false->∀ j,ks[j]?=some n->∀ x ∈ Ru.within r,x.1.1 ∈ ks.drop (j+1))
 refine for_it (walk_enum (K:=K) (a:=nl) (xs:=ks.map V.str)) (fun i σ H3=>SB [K0] H1 H3/\∃ (xs:List V) (b:Bk) (o6 o7 o8 o9 o10 o11 o12 o13 o14:Option V),σ=[some (.ref a),some (.int (f0:Int)),some (.ref nl),some (.int c),some (.bl rd),some (.ref K0),o6,o7,o8,o9,o10,o11,o12,o13,o14]/\H3 K0=some (.lst xs)/\KdAll K H3 [K0] xs b/\b.names=ks.take i/\∀ k ∈ b,k.rs.length<=4/\∀ r ∈ k.rs,goodR k.n r)
  ⟨SB.refl,[],[],_,_,_,_,_,_,_,_,_,rfl,hK1,.nil,rfl,by simp⟩ (fun i σ H3 hi h3=>h3.1.sqL (by simp [nK]) (SqL.of hn1)) (fun i x σ H3 H' hi h3 y=>?_) (fun σ H3 h3=>?_)
 ·obtain ⟨s3,xs,b,o6,o7,o8,o9,o10,o11,o12,o13,o14,rfl,hK3,ha3,bn,hgood⟩:=h3
  obtain ⟨T,x1,y1,rfl,hT,rfl,ex,ey⟩:=y
  have ex:some (V.int (i:Nat))=some x1:=ex
  cases ex
  have ey:(ks.map V.str)[i]?=some y1:=ey
  rw [List.getElem?_map] at ey
  rw [List.length_map] at hi
  obtain ⟨nm,en,rfl⟩:=Option.map_eq_some_iff.mp ey
  have t4:=SB.new (ps:=[]) hT (.tup [.int (i:Nat),.str nm])
  have hT4:upd H3 T (.tup [.int (i:Nat),.str nm]) T=some (.tup [.int (i:Nat),.str nm]):=upd_same
  have hK4:=t4.keep _ _ hK3 nmn
  have ha4:=ha3.sb t4 NoLst.nil
  have s4:=s3.trans (t4.nil (ps:=[K0]))
  generalize upd H3 T (.tup [.int (i:Nat),.str nm])=H4 at t4 hT4 hK4 ha4 s4
  have hn4:=s4.keep _ _ hn1 (by simp [nK])
  refine ⟨T,_,rfl,SqT.of hT4,rfl,_,_,rfl,_,_,rfl,rfl,?_⟩
  refine ⟨_,rfl,_,rfl,_,rfl,_,_,rfl,rfl,a,ns,f0+i,by simp,hsn H4 s4,h63,by omega,fun p H5 s5 np p5=>?_⟩
  have hK5:=s5.keep _ _ hK4 nmn
  have hn5:=s5.keep _ _ hn4 nmn
  have ha5:=(ha4.more np).sb s5 NoLst.nil
  have Kp:K0 ≠ p:=fun z=>by rw [<- z,hK4] at np; cases np
  have nlp:nl ≠ p:=fun z=>by rw [<- z,hn4] at np; cases np
  have s15:SB [K0] H1 H5:=s4.trans s5.nil
  refine z09 ?_
  refine ⟨_,rfl,_,rfl,_,_,rfl,rfl,_,rfl,nl,_,rfl,SqL.of hn5,fun S nS=>?_⟩
  have e1:cutV (ks.map V.str) (some ((i:Int)+1)) none=(ks.drop (i+1)).map V.str:=by
   rw [<- z9d]; rfl
  rw [e1]
  have t6:=SB.new (ps:=[]) nS (.lst ((ks.drop (i+1)).map V.str))
  have hS6:upd H5 S (.lst ((ks.drop (i+1)).map V.str)) S=some (.lst ((ks.drop (i+1)).map V.str)):=upd_same
  have p6:=p5.sb t6
  have hK6:=t6.keep _ _ hK5 nmn
  have hn6:=t6.keep _ _ hn5 nmn
  have ha6:=ha5.sb t6 NoLst.nil
  have s16:=s15.trans (t6.nil (ps:=[K0]))
  have Sp:S ≠ p:=fun z=>p5.ne nS z.symm
  have SK:S ≠ K0:=fun z=>by rw [z,hK5] at nS; cases nS
  generalize upd H5 S (.lst ((ks.drop (i+1)).map V.str))=H6 at t6 hS6 p6 hK6 hn6 ha6 s16
  refine z09 ?_
  dsimp only
  refine z7e (fun σ' H9=>H6=H9/\∃ (sl:Addr) (ss:List Str),σ'=[some (.ref a),some (.int (f0:Int)),some (.ref nl),some (.int c),some (.bl rd),some (.ref K0),some (.int (i:Int)),some (.str nm),some (.ref p),some (.ref sl),o10,o11,o12,o13,o14]/\H6 sl=some (.lst (ss.map V.str))/\sl ≠ p/\sl ≠ K0/\ss.length<=8/\(∀ x ∈ ss,x ∈ ks)/\(rd=false->ss=ks.drop (i+1))) (fun nx hnx=>?_) (fun σ' H9 h=>?_)
  ·refine ⟨_,rfl,rd,rfl,?_⟩
   cases rd with
   | true=>exact iteT ⟨_,rfl,hnx _ _ ⟨rfl,nl,ks,rfl,hn6,nlp,nK,kl8,fun _ h=>h,fun z=>nomatch z⟩⟩
   | false=>exact iteF (hnx _ _ ⟨rfl,S,ks.drop (i+1),rfl,hS6,Sp,SK,by rw [List.length_drop]; omega,fun _ h=>List.mem_of_mem_drop h,fun _=>rfl⟩)
  obtain ⟨rfl,sl,ss,rfl,hsl,slp,slK,ssl,ssk,sse⟩:=h
  refine ⟨by show 0<=sizeLine; decide,fun R nR=>?_⟩
  have t7:=SB.new (ps:=[]) nR (.lst [])
  have hR7:upd H6 R (.lst []) R=some (.lst []):=upd_same
  have p7:=p6.sb t7
  have hK7:=t7.keep _ _ hK6 nmn
  have hsl7:=t7.keep _ _ hsl nmn
  have ha7:=ha6.sb t7 NoLst.nil
  have ha7R:=(ha6.more nR).sb t7 NoLst.nil
  have s17:=s16.trans (t7.nil (ps:=[K0]))
  have Rp:R ≠ p:=fun z=>p6.ne nR z.symm
  have RK:R ≠ K0:=fun z=>by rw [z,hK6] at nR; cases nR
  have slR:sl ≠ R:=ne_of_none hsl nR
  have nR1:H1 R=none:=s16.dom _ nR
  have np1:H1 p=none:=s4.dom _ np
  generalize upd H6 R (.lst [])=H7 at t7 hR7 p7 hK7 hsl7 ha7 ha7R s17
  refine z09 ?_
  refine ⟨_,rfl,p,2,rfl,p7,by decide,by decide,fun r8 H8 _ _ s8 p8=>?_⟩
  refine ⟨rfl,?_⟩
  generalize decide (V.int r8=V.int 1)=wd
  refine z09 ?_
  refine ⟨_,rfl,p,5,rfl,p8,by decide,by decide,fun r9 H9 r90 r95 s9 p9=>?_⟩
  have s79:SB [p] H7 H9:=s8.trans s9
  have hsl9:=s79.keep _ _ hsl7 (by simpa using slp)
  refine ⟨_,rfl,by show 0<=sizeLine; decide,fun e0 ne0=>?_⟩
  have t10:=SB.new (ps:=[]) ne0 (.lst [])
  have he10:SqL K (upd H9 e0 (.lst [])) e0 []:=SqL.of upd_same
  have p10:=p9.sb t10
  have s7a:SB [p] H7 (upd H9 e0 (.lst [])):=s79.trans (t10.nil (ps:=[p]))
  generalize upd H9 e0 (.lst [])=Ha at t10 he10 p10 s7a
  have hRa:=s7a.keep _ _ hR7 (by simpa using Rp)
  have hKa:=s7a.keep _ _ hK7 (by simpa using Kp)
  have hsla:=s7a.keep _ _ hsl7 (by simpa using slp)
  have haa:=ha7R.sb s7a (fun q hq=>.inl (by rw [List.mem_singleton.mp hq]; simp))
  have sokS:∀ z ∈ ss,z01 z:=fun z hz=>kok z (ssk z hz)
  refine ⟨.list (ss.map .str),.list [],Dp.lst (SqL.of hsla) (z70 _).dp,Dp.lst he10 .nil,z8f sokS,by decide +kernel,.inr ⟨_,rfl,?_⟩⟩
  rw [zg1]
  obtain ⟨ct,ect,ct4,ctn⟩:∃ ct:Nat,r9*(if (!decide (ss=[]))=true then 1 else 0)=(ct:Int)/\ct<=4/\(1<=ct->ss ≠ []):=by
   by_cases h0:ss=[]
   ·exact ⟨0,by rw [decide_eq_true h0]; simp,by omega,fun z=>by omega⟩
   ·exact ⟨r9.toNat,by rw [decide_eq_false h0]; simp; omega,by omega,fun _=>h0⟩
  refine ⟨_,_,rfl,rfl,.inl ⟨by show (-(2 ^ 64):Int) < r9; omega,by show r9 < 2 ^ 64; omega⟩,(ct:Int),(by show [V.int (r9*(if (!decide (ss=[]))=true then 1 else 0))]=_; rw [ect]),by omega,by omega,?_⟩
  rw [Int.toNat_natCast]
  refine for_it walk_range (fun j σ H8=>SB [R,p] Ha H8/\PuG H8 p/\∃ (us:List V) (rs:List Ru) (o12 o13 o14:Option V),σ=[some (.ref a),some (.int (f0:Int)),some (.ref nl),some (.int c),some (.bl rd),some (.ref K0),some (.int (i:Int)),some (.str nm),some (.ref p),some (.ref sl),some (.ref R),some (.bl wd),o12,o13,o14]/\H8 R=some (.lst us)/\Bears K H8 Ru.enc us rs/\rs.length<=j/\∀ r ∈ rs,goodR nm r)
   ⟨SB.refl,p10,[],[],_,_,_,rfl,hRa,.nil,Nat.le_refl _,by simp⟩ (fun _ _ _ _ _=>trivial) (fun j x σ Hb H' hj h8 y=>?_) (fun σ H8 h8=>?_)
  ·obtain ⟨sb,pb,us,rs,o12,o13,o14,rfl,hRb,hbb,rl,hrs⟩:=h8
   obtain ⟨rfl,rfl⟩:=y
   have sne:=ctn (by omega)
   have spos:1<=ss.length:=List.length_pos_iff.mpr sne
   refine zir ?_
   refine ⟨_,rfl,p,5,rfl,pb,by decide,by decide,fun rm Hc rm0 rm5 sc pc=>?_⟩
   obtain ⟨m,rfl⟩:∃ u:Nat,rm=(u:Int):=⟨rm.toNat,by omega⟩
   refine z09 ?_
   refine ⟨_,rfl,_,rfl,_,_,rfl,rfl,p,(m:Int)+1,rfl,pc,by omega,by omega,fun ro Hd ro0 rom sd pd=>?_⟩
   obtain ⟨o,rfl⟩:∃ u:Nat,ro=(u:Int):=⟨ro.toNat,by omega⟩
   refine z09 ?_
   have sad:SB [R,p] Ha Hd:=sb.trans ((sc.trans sd).mono (by simp))
   have hsld:=sad.keep _ _ hsla (by simp [slR,slp])
   have hRd:=(sc.trans sd).keep _ _ hRb (by simpa using Rp)
   have hbd:=hbb.sb (sc.trans sd) Ru.noList_enc
   refine ⟨_,rfl,.inl ⟨rfl,_,SqL.of hRd⟩,_,rfl,_,rfl,_,rfl,_,rfl,p,sl,ss,o,3,c,cc,rfl,pd,hsld,slp,spos,ssl,sokS,by omega,by decide,by decide,hc1,hc2,hcc,Int.le_trans hcm (by decide),fun v1 g1 He se pe hg1 ok1 pt1 dp1 nm1 _=>?_⟩
   have hsle:=se.keep _ _ hsld (by simpa using slp)
   have emo:(m:Int)-(o:Int)=((m-o:Nat):Int):=by omega
   refine ⟨_,rfl,_,rfl,_,rfl,_,rfl,_,_,rfl,rfl,_,rfl,p,sl,ss,m-o,3,c,cc,(by show [V.ref p,V.ref sl,V.int ((m:Int)-(o:Int)),V.int c,V.int 3]=_; rw [emo]; rfl),pe,hsle,slp,spos,ssl,sokS,by omega,by decide,by decide,hc1,hc2,hcc,Int.le_trans hcm (by decide),fun v2 g2 Hf sf pf hg2 ok2 pt2 dp2 nm2 _=>?_⟩
   have hRf:=(se.trans sf).keep _ _ hRd (by simpa using Rp)
   have hbf:=hbd.sb (se.trans sf) Ru.noList_enc
   refine ⟨by show 2<=sizeLine; decide,fun T2 nT2=>?_⟩
   have t14:=SB.new (ps:=[]) nT2 (.tup [v1,v2])
   have hR14:=t14.keep _ _ hRf nmn
   have hb14:=hbf.sb t14 Ru.noList_enc
   have hT14:SqT K (upd Hf T2 (.tup [v1,v2])) T2 [v1,v2]:=SqT.of upd_same
   have p14:=pf.sb t14
   have hg1':=GA.sb (GA.sb hg1 sf) t14
   have hg2':=GA.sb hg2 t14
   have sag:SB [R,p] Ha (upd Hf T2 (.tup [v1,v2])):=sad.trans (((se.trans sf).trans (t14.nil (ps:=[p]))).mono (by simp))
   generalize upd Hf T2 (.tup [v1,v2])=Hg at t14 hR14 hb14 hT14 p14 hg1' hg2' sag
   have ul:=hb14.length
   refine ⟨R,_,_,rfl,rfl,hR14,by omega,?_⟩
   have t15:=SB.set (ps:=[R]) hR14 (by simp) (.lst (us++[.ref T2]))
   refine ⟨sag.trans (t15.mono (by simp)),p14.keep t15 (by simpa using fun z:p=R=>Rp z.symm),us++[.ref T2],rs++[(g1,g2)],_,_,_,rfl,upd_same,?_,by rw [List.length_append,List.length_singleton]; omega,fun r hr=>?_⟩
   ·exact (hb14.sb t15 Ru.noList_enc).append (.cons (.tup (t15.sqT hT14) (.cons (GA.sb hg1' t15) (.cons (GA.sb hg2' t15) .nil))) .nil)
   ·rcases List.mem_append.mp hr with hr | hr
    ·exact hrs r hr
    ·rw [List.mem_singleton.mp hr]
     have nmw:∀ x ∈ Ru.within (g1,g2),x.1.1 ∈ ss:=fun x hx=>by
      rcases List.mem_append.mp hx with hx | hx
      ·exact nm1 x hx
      ·exact nm2 x hx
     refine ⟨⟨ok1,dp1⟩,⟨ok2,dp2⟩,by show g1.parts+g2.parts<=4; omega,fun x hx=>ssk _ (nmw x hx),fun hf j' ej x hx=>?_⟩
     have:i=j':=nodup_at knd en ej
     subst this
     rw [<- sse hf]
     exact nmw x hx
  obtain ⟨s8',p8',us,rs,o12,o13,o14,rfl,hR8,hb8,rl,hrs⟩:=h8
  have hK8:=s8'.keep _ _ hKa (by simp [Kp,RK.symm])
  have ha8:=haa.sb s8' (fun q hq=>.inl (by rcases List.mem_cons.mp hq with rfl | hq <;> simp_all))
  have xl:=ha8.length
  have bl:b.length<=i:=by
   have:(Bk.names b).length=(ks.take i).length:=by rw [bn]
   rw [List.length_map,List.length_take] at this
   omega
  refine ⟨_,rfl,.inl ⟨rfl,_,SqL.of hK8⟩,_,rfl,_,rfl,_,rfl,by show 3<=sizeLine; decide,fun T3 nT3=>?_⟩
  have t16:=SB.new (ps:=[]) nT3 (.tup [.str nm,.bl wd,.ref R])
  have hT16:SqT K (upd H8 T3 (.tup [.str nm,.bl wd,.ref R])) T3 [.str nm,.bl wd,.ref R]:=SqT.of upd_same
  have hK16:=t16.keep _ _ hK8 nmn
  have hR16:=t16.keep _ _ hR8 nmn
  have hb16:=hb8.sb t16 Ru.noList_enc
  have ha16:=ha8.sb t16 NoLst.nil
  have s1g:SB [R,p,K0] H1 (upd H8 T3 (.tup [.str nm,.bl wd,.ref R])):=(((s17.mono (by simp)).trans (s7a.mono (by simp))).trans (s8'.mono (by simp))).trans t16.nil
  have s1g:=(s1g.drop nR1).drop np1
  generalize upd H8 T3 (.tup [.str nm,.bl wd,.ref R])=Hh at t16 hT16 hK16 hR16 hb16 ha16 s1g
  refine ⟨K0,_,_,rfl,rfl,hK16,by omega,?_⟩
  have t17:=SB.set (ps:=[K0]) hK16 (by simp) (.lst (xs++[.ref T3]))
  refine ⟨s1g.trans t17,xs++[.ref T3],b++[⟨nm,wd,rs⟩],_,_,_,_,_,_,_,_,_,rfl,upd_same,?_,?_,fun k hk=>?_⟩
  ·have h1:=ha16.sb t17 (fun q hq=>.inl (by rw [List.mem_singleton.mp hq]; simp))
   exact (h1.less (bad':=[K0]) (by simp)).append (.cons ⟨T3,R,us,rfl,t17.sqT hT16,t17.keep _ _ hR16 (by simpa using RK),hb16.sb t17 Ru.noList_enc,by simp [RK]⟩ .nil)
  ·rw [Bk.names,List.map_append,List.take_add_one,en]
   show Bk.names b++[nm]=_
   rw [bn]; rfl
  ·rcases List.mem_append.mp hk with hk | hk
   ·exact hgood k hk
   ·rw [List.mem_singleton.mp hk]; exact ⟨by show rs.length<=4; omega,hrs⟩
 ·obtain ⟨s3,xs,b,o6,o7,o8,o9,o10,o11,o12,o13,o14,rfl,hK3,ha3,bn,hgood⟩:=h3
  rw [List.length_map,List.take_length] at bn
  have bl:b.length=ks.length:=by rw [<- bn]; exact (List.length_map ..).symm
  have hmem:∀ k ∈ b,k.n ∈ ks:=fun k hk=>by rw [<- bn]; exact List.mem_map.mpr ⟨k,hk,rfl⟩
  refine ⟨_,rfl,q K0 xs b H3 ((t1.nil.trans s3).drop nK0) nK0 hK3 ha3 ⟨by omega,by omega,by rw [bn]; exact knd,fun k hk=>⟨kok _ (hmem k hk),(hgood k hk).1,fun r hr=>?_⟩⟩ bn (fun k hk r hr=>⟨((hgood k hk).2 r hr).1,((hgood k hk).2 r hr).2.1⟩) (fun hf k hk j ej r hr=>((hgood k hk).2 r hr).2.2.2.2 hf j ej)⟩
  obtain ⟨h1,h2,h3,h4,_⟩:=(hgood k hk).2 r hr
  exact ⟨⟨h1.1.mono (by omega),h2.1.mono (by omega),h3⟩,fun x hx=>by rw [bn]; exact h4 x hx⟩
end
theorem z8j {α:Type} {j:Nat} {b:α} (h:([]:List α)[j]?=some b):False:=by simp at h
def z0q (f:Nat->Nat):Nat->Nat
 | 0=>0
 | n+1=>z0q f n+f n
theorem z2x {f g:Nat->Nat}:∀ {n:Nat},(∀ j,j < n->f j=g j)->z0q f n=z0q g n
 | 0,_=>rfl
 | n+1,h=>by show z0q f n+f n=z0q g n+g n; rw [z2x fun j hj=>h j (by omega),h n (by omega)]
theorem z4c {f:Nat->Nat} {i x:Nat}:∀ {n:Nat},i < n->z0q (fun j=>if j=i then x else f j) n+f i=z0q f n+x
 | 0,h=>by omega
 | n+1,h=>by
  show z0q (fun j=>if j=i then x else f j) n+(if n=i then x else f n)+f i=z0q f n+f n+x
  by_cases hn:n=i
  ·subst hn
   rw [if_pos rfl]
   have:z0q (fun j=>if j=n then x else f j) n=z0q f n:=z2x fun j hj=>if_neg (by omega)
   rw [this]; omega
  ·rw [if_neg hn]
   have:=z4c (f:=f) (x:=x) (n:=n) (i:=i) (by omega)
   omega
theorem z3i {f:Nat->Nat} {i:Nat}:∀ {n:Nat},i < n->f i<=z0q f n
 | 0,h=>by omega
 | n+1,h=>by
  show f i<=z0q f n+f n
  by_cases hn:n=i
  ·subst hn; omega
  ·have:=z3i (f:=f) (n:=n) (i:=i) (by omega); omega
abbrev RowH:=Int × Str × Int
def z5f (r:RowH):PyData:=.tuple [.int r.1,.str r.2.1,.int r.2.2]
theorem z1c (r:RowH):z03 (z5f r)=true:=by simp [z5f,z03,z05]
section
variable {P:Program} {w:World} {K:PySem.W.Frag} {mg:Str->Option Value} {base:Heap} {f:Addr} {fd:FuncData}
theorem zc3 {H:Hp} {v:V} {r:RowH} (h:Dp K H v (z5f r)):∃ a,v=.ref a/\SqT K H a [.int r.1,.str r.2.1,.int r.2.2]:=by
 cases h with
 | tup hs ha =>
  cases ha with
  | cons h1 h2 =>
   cases h2 with
   | cons h3 h4 =>
    cases h4 with
    | cons h5 h6 =>
     cases h6; cases h1; cases h3; cases h5
     exact ⟨_,rfl,hs⟩
/-- rows that are right: each holder stands ahead,and none is deeper than l -/
structure ze5 (ks:List Str) (c:Int) (l:Nat) (rows:List RowH) (dl:List Nat):Prop where
 len:dl.length=rows.length
 ok:∀ (j:Nat) (r:RowH),rows[j]?=some r->-1<=r.1/\r.1 < j/\(z01 r.2.1/\r.2.1 ∈ ks)/\1<=r.2.2/\r.2.2<=c
 dp:∀ (j:Nat) (r:RowH) (d:Nat),rows[j]?=some r->dl[j]?=some d->1<=d/\d<=l/\(r.1=-1->d=1)/\(∀ h:Nat,r.1=(h:Int)->∃ e,dl[h]?=some e/\d=1+e)
abbrev z9y:List Str:=["_law_script","_law_first","_law_many","_law_names_here","_law_great","_law_low","_law_rows","_law_deep","_law_k","_law_purse_here","_law_holder","_law_kind","_law_count","_law_held","_law_tree"]
theorem sc_law_grove:FnScope z9y ["_law_script","_law_first","_law_many","_law_names_here","_law_great","_law_low"] (defScope s_q6):=⟨rfl,rfl,rfl,by decide +kernel,rfl,by decide +kernel,by decide +kernel⟩
theorem z9a (B:BI mg) (GP:Got P w K mg base "_law_purse" ["_law_script","_law_k"] 1 (z21 K)) (GT:Got P w K mg base "_law_take" ["_law_purse_here","_law_many"] 1 z0v) (GY:Got P w K mg base "_law_tidy" ["_law_pairs"] 1 (z5v K)) (F:Fun K "_law_grove" "_law_grove" s_q6 f fd) :
  FnOk P w K mg base CX0 2 f fd ["_law_script","_law_first","_law_many","_law_names_here","_law_great","_law_low"] (z65 K):=by
 refine F.ok sc_law_grove (fun vs H Q E h=>?_) (fun cdv A outer s H vs Q E hr h=>?_)
 ·obtain ⟨a,n,ns,ks,f,m,l,c,rfl,_⟩:=h
  rfl
 obtain ⟨a,n,ns,ks,f0,m,l,c,rfl,hs,h63,hn,kl1,kl8,kn,hf0,hm,hl1,hl12,hc1,hc,q⟩:=h
 obtain ⟨cc,hc3,hcc,hcm⟩:∃ cc:Int,3<=cc/\cc<=10 ^ 58/\c<=cc:=⟨max 3 c,by omega,Int.max_le.mpr ⟨by decide,hc⟩,by omega⟩
 refine ⟨_,pss_cons (ps_set (i:=6) sc_law_grove.nd rfl (.inl rfl) (pe_lst pa_nil)) (pss_cons (ps_set (i:=7) sc_law_grove.nd rfl (.inl rfl) (pe_lst pa_nil))
  (pss_cons (ps_for PassesOwn.never rfl (pi_range1 rfl B.range (pa_cons (pv 2) pa_nil)) (pg_name (i:=8) sc_law_grove.nd rfl (.inl rfl))
   (pss_cons (ps_set (i:=9) sc_law_grove.nd rfl (.inl rfl) (z00 GP hr rfl (pa_cons (pv 0) (pa_cons (pe_op op_add (pv 1) (pv 8)) pa_nil))))
   (pss_cons (ps_set (i:=10) sc_law_grove.nd rfl (.inl rfl) (pe_op op_sub (z00 GT hr rfl (pa_cons (pv 9) (pa_cons (pe_op op_add (pv 8) pe_int) pa_nil))) pe_int))
   (pss_cons (ps_if (PW.pt (pw_and (pt_cmpR op_ge (pv 10) pe_int (nomark _)) (pw_and1 (pt_cmpR op_ge (pe_ix ix_list (pv 7) (pv 10) (fun _ _=>rfl)) (pv 5) (nomark _))))) (pss_one (ps_set (i:=10) sc_law_grove.nd rfl (.inl rfl) (pe_un un_neg pe_int))) pss_nil)
   (pss_cons (ps_set (i:=11) sc_law_grove.nd rfl (.inl rfl) (pe_ix ix_list (pv 3) (z00 GT hr rfl (pa_cons (pv 9) (pa_cons (pe_callB call_len_seq rfl B.len PySem.boot_len (pa_cons (pv 3) pa_nil)) pa_nil))) (fun _ _=>rfl)))
   (pss_cons (ps_set (i:=12) sc_law_grove.nd rfl (.inl rfl) (pe_op op_add pe_int (z00 GT hr rfl (pa_cons (pv 9) (pa_cons (pe_ix ix_list (pe_lst (pa_cons pe_int (pa_cons pe_int (pa_cons pe_int (pa_cons (pv 4) pa_nil))))) (z00 GT hr rfl (pa_cons (pv 9) (pa_cons pe_int pa_nil))) (fun _ _=>rfl)) pa_nil)))))
   (pss_cons (ps_expr (pe_bm PySem.F.plainAttrs_list PySem.F.slot_list_append PySem.F.type_list_append mt_append (pv 6) (pa_cons (pe_tup (pa_cons (pv 10) (pa_cons (pv 11) (pa_cons (pv 12) pa_nil)))) pa_nil)))
   (pss_one (ps_expr (pe_bm PySem.F.plainAttrs_list PySem.F.slot_list_append PySem.F.type_list_append mt_append (pv 7) (pa_cons (pe_op op_add pe_int (pe_ix ix_list (pe_op op_cat (pe_lst (pa_cons pe_int pa_nil)) (pv 7)) (pe_op op_add (pv 10) pe_int) (fun _ _=>rfl))) pa_nil)))))))))))
  (pss_cons (ps_setLc (i:=13) (own:=[("_law_k",8)]) (g:=gName 8) (tt:=tYes) (te:=tLst tNil) rfl sc_law_grove.nd rfl rfl (sw_true rfl rfl rfl (by decide +kernel)) (pi_range1 rfl B.range (pa_cons (pe_op op_add (pv 2) pe_int) pa_nil))
    (blkOk_by (N:=z9y) (sc:=defScope s_q6) (by decide +kernel))
    (fun _ _ _ _ _=>pg_name (i:=8) sc_law_grove.nd rfl (.inl rfl)) (fun _ _ _ _ _=>pts_nil) (fun _ _ _ _ _=>pe_lst pa_nil))
  (pss_cons (ps_for PassesOwn.never rfl (pi_revR rfl B.reversed (prg_1 rfl B.range (pv 2))) (pg_name (i:=8) sc_law_grove.nd rfl (.inl rfl))
   (pss_cons (ps_asg (pe_ix ix_list (pv 6) (pv 8) (fun _ _=>rfl)) (pg_tup rfl (pgs_cons (pg_name (i:=10) sc_law_grove.nd rfl (.inl rfl)) (pgs_cons (pg_name (i:=11) sc_law_grove.nd rfl (.inl rfl)) (pgs_cons (pg_name (i:=12) sc_law_grove.nd rfl (.inl rfl)) pgs_nil)))))
   (pss_cons (ps_set (i:=14) sc_law_grove.nd rfl (.inl rfl) (pe_tup (pa_cons (pv 11) (pa_cons (z00 GY hr rfl (pa_cons (pe_ix ix_list (pv 13) (pv 8) (fun _ _=>rfl)) pa_nil)) pa_nil))))
   (pss_one (ps_expr (pe_bm PySem.F.plainAttrs_list PySem.F.slot_list_append PySem.F.type_list_append mt_append (pe_ix ix_list (pv 13) (pv 10) (fun _ _=>rfl)) (pa_cons (pe_tup (pa_cons (pv 14) (pa_cons (pv 12) pa_nil))) pa_nil)))))))
  (pss_one (ps_ret (z00 GY hr rfl (pa_cons (pe_ix ix_list (pv 13) (pv 2) (fun _ _=>rfl)) pa_nil)))))))),?_⟩
 -- the two lists
 refine ⟨(by show 0<=sizeLine; decide),fun R hR=>?_⟩
 have t1:=SB.new (ps:=[]) hR (.lst [])
 refine ⟨(by show 0<=sizeLine; decide),fun G hG=>?_⟩
 have t2:=SB.new (ps:=[]) hG (.lst [])
 have RG:R ≠ G:=fun z=>by subst z; rw [upd_same] at hG; cases hG
 have hR0:(upd (upd H R (.lst [])) G (.lst [])) R=some (.lst []):=t2.keep _ _ upd_same nmn
 have hG0:(upd (upd H R (.lst [])) G (.lst [])) G=some (.lst []):=upd_same
 have t12:=t1.trans t2
 have GnH:H G=none:=t1.dom _ hG
 generalize hH0:upd (upd H R (.lst [])) G (.lst [])=H0 at t12 hR0 hG0
 have hs0:=t12.sqL nmn hs
 have hn0:=t12.keep _ _ hn nmn
 have nR:n ≠ R:=fun z=>by subst z; rw [hR] at hn; cases hn
 have nG:n ≠ G:=fun z=>by subst z; rw [GnH] at hn; cases hn
 have hsn:∀ (H2:Hp),SB [R,G] H0 H2->SqL K H2 a (ns.map V.int):=fun H2 s2=>by
  have s3:SB [R,G] H H2:=t12.nil.trans s2
  have s4:SB [] H H2:=by
   refine ⟨fun b o e nm=>s3.keep b o e fun z=>?_,s3.tups,s3.frzs,s3.dom⟩
   rcases List.mem_cons.mp z with z | z
   ·subst z; rw [hR] at e; cases e
   ·have z':b=G:=by simpa using z
    subst z'; rw [GnH] at e; cases e
  exact s4.sqL nmn hs
 refine ⟨_,rfl,(m:Int),rfl,by omega,by omega,?_⟩
 refine for_range (n:=(m:Int).toNat) (fun i σ H2=>SB [R,G] H0 H2/\∃ (us:List V) (rows:List RowH) (dl:List Nat) (o8 o9 o10 o11 o12:Option V),σ=[some (.ref a),some (.int (f0:Int)),some (.int (m:Int)),some (.ref n),some (.int c),some (.int (l:Int)),some (.ref R),some (.ref G),o8,o9,o10,o11,o12,none,none]/\rows.length=i/\ze5 ks cc l rows dl/\H2 R=some (.lst us)/\Bears K H2 z5f us rows/\H2 G=some (.lst (dl.map fun d:Nat=>V.int (d:Int))))
  ⟨SB.refl,[],[],[],none,none,none,none,none,rfl,rfl,⟨rfl,fun j r h=>by simp at h,fun j r d h=>by simp at h⟩,hR0,.nil,hG0⟩ (fun i σ H2 hi h2=>?_) (fun σ H2 h2=>?_)
 ·obtain ⟨s2,us,rows,dl,o8,o9,o10,o11,o12,rfl,rl,hrow,hR2,hb2,hG2⟩:=h2
  have dll:=hrow.len
  have ul:=hb2.length
  have im:i < m:=by omega
  refine ⟨_,rfl,_,rfl,_,rfl,_,_,rfl,rfl,a,ns,f0+i,by simp,hsn H2 s2,h63,by omega,fun p H3 s3 np p3=>?_⟩
  have pR:p ≠ R:=fun z=>by subst z; rw [hR2] at np; cases np
  have pG:p ≠ G:=fun z=>by subst z; rw [hG2] at np; cases np
  have hR3:=s3.keep _ _ hR2 nmn
  have hG3:=s3.keep _ _ hG2 nmn
  have hn3:H3 n=some (.lst (ks.map V.str)):=s3.keep _ _ (s2.keep _ _ hn0 (by simp [nR,nG])) nmn
  refine ⟨_,rfl,_,rfl,_,_,rfl,rfl,p,(i:Int)+1,by simp,p3,by omega,by omega,fun r H4 r0 ri s4 p4=>?_⟩
  refine ⟨_,_,rfl,rfl,?_⟩
  have Rp:R ∉ [p]:=by simpa using fun z:R=p=>pR z.symm
  have Gp:G ∉ [p]:=by simpa using fun z:G=p=>pG z.symm
  have npn:n ∉ [p]:=by
   have:n ≠ p:=fun z=>by subst z; rw [s2.keep _ _ hn0 (by simp [nR,nG])] at np; cases np
   simpa using this
  have hR4:=s4.keep _ _ hR3 Rp
  have hG4:=s4.keep _ _ hG3 Gp
  have hn4:=s4.keep _ _ hn3 npn
  have s34:SB [p] H2 H4:=s3.nil.trans s4
  -- behind the choice of the holder
  have fin:∀ (hd:Int),-1<=hd->hd < i->(∀ h:Nat,hd=(h:Int)->∃ e,dl[h]?=some e/\e < l) ->
    tSeq (tAsg (tOp (rIxL K) (tVar 3) (tCall z0v [] E0 (tCons (tVar 9) (tCons (tCB (fun xs H Q=>∃ p ys,xs=[.ref p]/\(SqL K H p ys\/SqT K H p ys)/\Q (.int ys.length) H) (tCons (tVar 3) tNil)) tNil)))) (gName 11))
    (tSeq (tAsg (tOp (rI0 fun i j=>.int (i+j)) (tC (.int 1)) (tCall z0v [] E0 (tCons (tVar 9) (tCons (tOp (rIxL K) (tLst (tCons (tC (.int 1)) (tCons (tC (.int 1)) (tCons (tC (.int 3)) (tCons (tVar 4) tNil))))) (tCall z0v [] E0 (tCons (tVar 9) (tCons (tC (.int 4)) tNil)))) tNil)))) (gName 12))
    (tSeq (tDrop (tBM K "list" rAppend (tVar 6) (tCons (tTup (tCons (tVar 10) (tCons (tVar 11) (tCons (tVar 12) tNil)))) tNil)))
    (tDrop (tBM K "list" rAppend (tVar 7) (tCons (tOp (rI0 fun i j=>.int (i+j)) (tC (.int 1)) (tOp (rIxL K) (tOp rCat (tLst (tCons (tC (.int 0)) tNil)) (tVar 7)) (tOp (rI0 fun i j=>.int (i+j)) (tVar 10) (tC (.int 1))))) tNil)))))
    { nx:=fun σ H2=>SB [R,G] H0 H2/\∃ (us:List V) (rows:List RowH) (dl:List Nat) (o8 o9 o10 o11 o12:Option V),σ=[some (.ref a),some (.int (f0:Int)),some (.int (m:Int)),some (.ref n),some (.int c),some (.int (l:Int)),some (.ref R),some (.ref G),o8,o9,o10,o11,o12,none,none]/\rows.length=i+1/\ze5 ks cc l rows dl/\H2 R=some (.lst us)/\Bears K H2 z5f us rows/\H2 G=some (.lst (dl.map fun d:Nat=>V.int (d:Int))),rt:=Q }
    [some (.ref a),some (.int (f0:Int)),some (.int (m:Int)),some (.ref n),some (.int c),some (.int (l:Int)),some (.ref R),some (.ref G),some (.int (0+(i:Nat))),some (.ref p),some (.int hd),o11,o12,none,none] H4:=by
   intro hd hd1 hdi hdd
   refine ⟨_,rfl,_,rfl,_,rfl,n,_,rfl,.inl (SqL.of hn4),p,_,rfl,p4,by rw [List.length_map]; omega,by rw [List.length_map]; omega,fun r5 H5 r50 r5k s5 p5=>?_⟩
   rw [List.length_map] at r5k
   obtain ⟨x5,rfl⟩:∃ x:Nat,r5=(x:Int):=⟨r5.toNat,by omega⟩
   have hn5:=s5.keep _ _ hn4 npn
   have hk5:ks[x5]?=some ks[x5]:=List.getElem?_eq_getElem (by omega)
   have hko:z01 ks[x5]/\ks[x5] ∈ ks:=⟨kn ks[x5] (List.getElem_mem ..),List.getElem_mem ..⟩
   generalize ks[x5]=kd at hk5 hko
   refine ⟨n,_,_,.str kd,rfl,rfl,SqL.of hn5,atI_nat (j:=x5) (by rw [List.getElem?_map,hk5]; rfl),?_⟩
   refine ⟨_,rfl,_,rfl,(by show 4<=sizeLine; decide),fun la hla=>?_⟩
   have u6:=SB.new (ps:=[]) hla (.lst [.int 1,.int 1,.int 3,.int c])
   refine ⟨_,rfl,p,4,rfl,p5.new hla,by decide,by decide,fun r6 H6 r60 r64 s6 p6=>?_⟩
   have lap:la ∉ [p]:=by simpa using fun z:la=p=>p5.ne hla z.symm
   have hla6:=s6.keep _ _ (show (upd H5 la (.lst [.int 1,.int 1,.int 3,.int c])) la=some _ from upd_same) lap
   obtain ⟨z,hz,z1,zc⟩:∃ z:Int,atI [V.int 1,V.int 1,V.int 3,V.int c] r6=some (.int z)/\1<=z/\z<=cc:=by
    have:r6=0\/r6=1\/r6=2\/r6=3:=by omega
    rcases this with h | h | h | h <;> subst h
    ·exact ⟨1,rfl,by omega,by omega⟩
    ·exact ⟨1,rfl,by omega,by omega⟩
    ·exact ⟨3,rfl,by omega,by omega⟩
    ·exact ⟨c,rfl,by omega,hcm⟩
   refine ⟨la,_,_,_,rfl,rfl,SqL.of hla6,hz,p,z,rfl,p6,z1,Int.lt_of_le_of_lt (Int.le_trans zc hcc) (by decide),fun r7 H7 r70 r7z s7 p7=>?_⟩
   refine ⟨_,_,rfl,rfl,?_⟩
   have s57:SB [p] H4 H7:=((s5.trans u6.nil).trans s6).trans s7
   have s27:SB [p] H2 H7:=s34.trans s57
   have hR7:=s57.keep _ _ hR4 Rp
   have hG7:=s57.keep _ _ hG4 Gp
   -- rows.append
   refine ⟨_,rfl,.inl ⟨rfl,_,SqL.of hR7⟩,_,rfl,_,rfl,_,rfl,(by show 3<=sizeLine; decide),fun tr htr=>?_⟩
   have u8:=SB.new (ps:=[]) htr (.tup [.int hd,.str kd,.int (1+r7)])
   have hR8:=u8.keep _ _ hR7 nmn
   refine ⟨R,us,_,rfl,rfl,hR8,small1000 (by omega),?_⟩
   have u9:=SB.set (ps:=[R,G]) hR8 (by simp) (.lst (us++[.ref tr]))
   have hG9:(upd (upd H7 tr (.tup [.int hd,.str kd,.int (1+r7)])) R (.lst (us++[.ref tr]))) G=some (.lst (dl.map fun d:Nat=>V.int (d:Int))):=by
    rw [upd_ne (fun z=>RG z.symm)]; exact u8.keep _ _ hG7 nmn
   have hR9:(upd (upd H7 tr (.tup [.int hd,.str kd,.int (1+r7)])) R (.lst (us++[.ref tr]))) R=some (.lst (us++[.ref tr])):=upd_same
   have hb9:Bears K (upd (upd H7 tr (.tup [.int hd,.str kd,.int (1+r7)])) R (.lst (us++[.ref tr]))) z5f (us++[.ref tr]) (rows++[(hd,kd,1+r7)]) :=
    Bears.append (((hb2.sb s27 z1c).sb u8 z1c).sb u9 z1c) (.cons (Dp.tup (u9.sqT (SqT.of upd_same)) (.cons (.int _) (.cons (.str _) (.cons (.int _) .nil)))) .nil)
   have s29:SB [p,R,G] H2 (upd (upd H7 tr (.tup [.int hd,.str kd,.int (1+r7)])) R (.lst (us++[.ref tr]))):=((s27.mono (by simp)).trans u8.nil).trans (u9.mono (by simp))
   have s29':SB [R,G] H2 (upd (upd H7 tr (.tup [.int hd,.str kd,.int (1+r7)])) R (.lst (us++[.ref tr]))):=s29.drop np
   generalize hH9:upd (upd H7 tr (.tup [.int hd,.str kd,.int (1+r7)])) R (.lst (us++[.ref tr]))=H9 at hG9 hR9 hb9 s29'
   -- deep.append
   refine ⟨_,rfl,.inl ⟨rfl,_,SqL.of hG9⟩,(by show 1<=sizeLine; decide),fun l1 hl1=>?_⟩
   have v1:=SB.new (ps:=[]) hl1 (.lst [.int 0])
   have hG10:=v1.keep _ _ hG9 nmn
   refine ⟨_,rfl,l1,G,_,_,rfl,rfl,upd_same,hG10,?_,fun l2 hl2=>?_⟩
   ·rw [List.length_map,List.length_singleton]
    have:1000<=sizeLine:=by decide
    omega
   have v2:=SB.new (ps:=[]) hl2 (.lst ([V.int 0]++dl.map fun d:Nat=>V.int (d:Int)))
   have v12:=v1.trans v2
   have hG11:=v12.keep _ _ hG9 nmn
   -- how deep the holder is
   obtain ⟨e,he,hel,he1,he2⟩:∃ e:Nat,atI ([V.int 0]++dl.map fun d:Nat=>V.int (d:Int)) (hd+1)=some (.int (e:Int))/\e < l/\(hd=-1->e=0)/\(∀ h:Nat,hd=(h:Int)->dl[h]?=some e):=by
    by_cases h0:hd=-1
    ·subst h0
     exact ⟨0,atI_nat (j:=0) rfl,by omega,fun _=>rfl,fun h hh=>by omega⟩
    ·obtain ⟨h,rfl⟩:∃ h:Nat,hd=(h:Int):=⟨hd.toNat,by omega⟩
     obtain ⟨e,he,hel⟩:=hdd h rfl
     refine ⟨e,?_,hel,fun z=>by omega,fun h' hh=>(show h'=h by omega) ▸ he⟩
     have:((h:Int)+1)=((h+1:Nat):Int):=by omega
     rw [this]
     exact atI_nat (j:=h+1) (by show (dl.map fun d:Nat=>V.int (d:Int))[h]?=_; rw [List.getElem?_map,he]; rfl)
   refine ⟨_,rfl,_,_,rfl,rfl,l2,_,_,_,rfl,rfl,SqL.of upd_same,he,_,_,rfl,rfl,G,_,_,rfl,rfl,hG11,?_,?_⟩
   ·rw [List.length_map]; exact small1000 (by omega)
   have v3:=SB.set (ps:=[R,G]) hG11 (by simp) (.lst ((dl.map fun d:Nat=>V.int (d:Int))++[.int (1+(e:Int))]))
   refine ⟨s2.trans (s29'.trans (v12.nil.trans v3)),us++[.ref tr],rows++[(hd,kd,1+r7)],dl++[1+e],_,_,_,_,_,rfl,by simp [rl],?_,?_,?_,?_⟩
   ·refine ⟨by simp [dll],fun j r hj=>?_,fun j r d hj hdj=>?_⟩
    ·rw [List.getElem?_append] at hj
     by_cases hjl:j < rows.length
     ·rw [if_pos hjl] at hj; exact hrow.ok j r hj
     ·rw [if_neg hjl] at hj
      have hj0:j-rows.length=0:=by
       rcases Nat.eq_zero_or_pos (j-rows.length) with h | h
       ·exact h
       ·rw [List.getElem?_eq_none (by simp; omega)] at hj; cases hj
      rw [hj0] at hj
      have hr':(hd,kd,1+r7)=r:=by simpa using hj
      subst hr'
      exact ⟨hd1,by show hd < (j:Int); omega,hko,by show 1<=1+r7; omega,by show 1+r7<=cc; omega⟩
    ·rw [List.getElem?_append] at hj hdj
     by_cases hjl:j < rows.length
     ·rw [if_pos hjl] at hj
      rw [if_pos (by omega)] at hdj
      obtain ⟨a1,a2,a3,a4⟩:=hrow.dp j r d hj hdj
      refine ⟨a1,a2,a3,fun h hh=>?_⟩
      obtain ⟨e',he',hde⟩:=a4 h hh
      refine ⟨e',?_,hde⟩
      rw [List.getElem?_append,if_pos (List.getElem?_eq_some_iff.mp he').1]; exact he'
     ·rw [if_neg hjl] at hj
      rw [if_neg (by omega)] at hdj
      have hj0:j-rows.length=0:=by
       rcases Nat.eq_zero_or_pos (j-rows.length) with h | h
       ·exact h
       ·rw [List.getElem?_eq_none (by simp; omega)] at hj; cases hj
      rw [hj0] at hj
      rw [show j-dl.length=0 by omega] at hdj
      have hr':(hd,kd,1+r7)=r:=by simpa using hj
      have hd':1+e=d:=by simpa using hdj
      subst hr'; subst hd'
      refine ⟨by omega,by omega,fun z=>by have:=he1 z; omega,fun h hh=>⟨e,?_,rfl⟩⟩
      have:=he2 h hh
      rw [List.getElem?_append,if_pos (List.getElem?_eq_some_iff.mp this).1]; exact this
   ·rw [upd_ne RG]; exact v12.keep _ _ hR9 nmn
   ·exact hb9.sb (v12.nil.trans v3) z1c
   ·rw [upd_same,List.map_append]
    congr 2
  -- the choice of the holder
  refine ⟨_,rfl,_,_,rfl,rfl,_,rfl,?_⟩
  refine ite2 (fun cc=>?_) (fun cc=>?_)
  ·have cc':r-1 ≥ 0:=of_decide_eq_true cc
   obtain ⟨h,hh⟩:∃ h:Nat,r-1=(h:Int):=⟨(r-1).toNat,by omega⟩
   have hhl:h < dl.length:=by omega
   have hdh:dl[h]?=some dl[h]:=List.getElem?_eq_getElem hhl
   generalize dl[h]=d at hdh
   refine ⟨_,rfl,_,rfl,G,_,_,.int (d:Int),rfl,rfl,SqL.of hG4,?_,_,rfl,_,_,rfl,rfl,_,rfl,?_⟩
   ·rw [hh]; exact atI_nat (j:=h) (by rw [List.getElem?_map,hdh]; rfl)
   refine ite2 (fun cd=>?_) (fun cd=>?_)
   ·refine ⟨1,rfl,?_⟩
    exact fin (-1) (by omega) (by omega) (fun h hh=>by omega)
   ·have cd':¬ (d:Int) ≥ (l:Int):=of_decide_eq_false (Bool.eq_false_iff.mpr cd)
    refine fin (r-1) (by omega) (by omega) (fun h' hh'=>?_)
    have:h'=h:=by omega
    subst this
    exact ⟨d,hdh,by omega⟩
  ·have cc':¬ r-1 ≥ 0:=of_decide_eq_false (Bool.eq_false_iff.mpr cc)
   refine iteF ?_
   exact fin (r-1) (by omega) (by omega) (fun h hh=>by omega)
 -- the second part
 obtain ⟨s2,us,rows,dl,o8,o9,o10,o11,o12,rfl,rl,hrow,hR2,hb2,hG2⟩:=h2
 have rl:rows.length=m:=by omega
 have dll:=hrow.len
 have ul:=hb2.length
 have sH:SB [] H H2:=by
  have s3:SB [R,G] H H2:=t12.nil.trans s2
  refine ⟨fun b o e nm=>s3.keep b o e fun z=>?_,s3.tups,s3.frzs,s3.dom⟩
  rcases List.mem_cons.mp z with z | z
  ·subst z; rw [hR] at e; cases e
  ·have z':b=G:=by simpa using z
   subst z'; rw [GnH] at e; cases e
 refine ⟨_,rfl,_,_,rfl,rfl,(m:Int)+1,rfl,by omega,by omega,fun D hD=>?_⟩
 refine lc_it (walk_range (lo:=0) (n:=((m:Int)+1).toNat)) (fun i H3=>SB [D] H2 H3/\∃ as:List Addr,as.length=i/\H3 D=some (.lst (as.map V.ref))/\(∀ j b,as[j]?=some b->H3 b=some (.lst [])/\H2 b=none/\b ≠ D)/\(∀ i j b,as[i]?=some b->as[j]?=some b->i=j)) ⟨SB.new hD _,([]:List Addr),rfl,upd_same,fun j b h=>(z8j h).elim,fun i j b h=>(z8j h).elim⟩ (fun _ _ _ _=>trivial) (fun i x H3 H' hi h3 y=>?_) (fun H3 h3=>?_)
 ·obtain ⟨s3,as,al,hD3,has,hinj⟩:=h3
  obtain ⟨rfl,rfl⟩:=y
  refine ⟨rfl,?_⟩
  refine ⟨(by show 0<=sizeLine; decide),fun e0 he0=>?_⟩
  have t4:=SB.new (ps:=[D]) he0 (.lst [])
  have hD4:(upd H' e0 (.lst [])) D=some (.lst (as.map V.ref)):=by rw [upd_ne (ne_of_none hD3 he0)]; exact hD3
  refine ⟨_,hD4,by rw [List.length_map]; exact small1000 (by omega),?_⟩
  have t5:=SB.set (ps:=[D]) hD4 (by simp) (.lst (as.map V.ref++[.ref e0]))
  have eD:e0 ≠ D:=fun z=>by subst z; rw [hD3] at he0; cases he0
  refine ⟨(s3.trans t4).trans t5,as++[e0],by simp [al],by rw [upd_same,List.map_append]; rfl,fun j b hj=>?_,fun i j b hi hj=>?_⟩
  ·rw [List.getElem?_append] at hj
   by_cases hjl:j < as.length
   ·rw [if_pos hjl] at hj
    obtain ⟨b1,b2,b3⟩:=has j b hj
    refine ⟨?_,b2,b3⟩
    rw [upd_ne b3,upd_ne (ne_of_none b1 he0)]; exact b1
   ·rw [if_neg hjl] at hj
    have hj0:j-as.length=0:=by
     rcases Nat.eq_zero_or_pos (j-as.length) with h | h
     ·exact h
     ·rw [List.getElem?_eq_none (by simp; omega)] at hj; cases hj
    rw [hj0] at hj
    have:e0=b:=by simpa using hj
    subst this
    exact ⟨by rw [upd_ne eD]; exact upd_same,s3.dom _ he0,eD⟩
  ·have key:∀ j,(as++[e0])[j]?=some b->(as[j]?=some b/\j < as.length)\/(j=as.length/\b=e0):=by
    intro j hj
    rw [List.getElem?_append] at hj
    by_cases hjl:j < as.length
    ·rw [if_pos hjl] at hj; exact .inl ⟨hj,hjl⟩
    ·rw [if_neg hjl] at hj
     have hj0:j-as.length=0:=by
      rcases Nat.eq_zero_or_pos (j-as.length) with h | h
      ·exact h
      ·rw [List.getElem?_eq_none (by simp; omega)] at hj; cases hj
     rw [hj0] at hj
     have:e0=b:=by simpa using hj
     exact .inr ⟨by omega,this.symm⟩
   rcases key i hi with ⟨h1,_⟩ | ⟨h1,h2⟩ <;> rcases key j hj with ⟨g1,_⟩ | ⟨g1,g2⟩
   ·exact hinj i j b h1 g1
   ·exfalso; have:=(has i b h1).1; rw [g2,he0] at this; cases this
   ·exfalso; have:=(has j b g1).1; rw [h2,he0] at this; cases this
   ·omega
 obtain ⟨s3,as,al,hD3,has,hinj⟩:=h3
 have al:as.length=m+1:=by omega
 have s3':=s3.drop hD
 have asD:∀ b ∈ as,b ≠ D:=fun b hb=>by
  obtain ⟨j,hj⟩:=List.mem_iff_getElem?.mp hb
  exact (has j b hj).2.2
 have Das:D ∉ as:=fun z=>asD D z rfl
 have asH:∀ b ∈ as,H2 b=none:=fun b hb=>by
  obtain ⟨j,hj⟩:=List.mem_iff_getElem?.mp hb
  exact (has j b hj).2.1
 have Ras:R ∉ as:=fun z=>by have:=asH R z; rw [hR2] at this; cases this
 have hR3:=s3'.keep _ _ hR2 nmn
 have hb3:=hb2.sb s3' z1c
 -- changes of the held lists are nothing to what stood ahead
 have sfin:∀ (H4:Hp),SB as H3 H4->SB [] H H4:=fun H4 s4=>by
  refine sH.trans ⟨fun b o e nm=>s4.keep b o (s3'.keep b o e nmn) fun z=>?_,fun b x e=>s4.tups b x (s3'.tups b x e),fun b o u e=>s4.frzs b o u (s3'.frzs b o u e),fun b e=>s3'.dom b (s4.dom b e)⟩
  rw [asH b z] at e; cases e
 refine ⟨_,rfl,(m:Int),rfl,by decide,by decide,by omega,by omega,?_⟩
 refine for_it (walk_rangeC (lo:=0+((((m:Int)-0).toNat:Nat):Int)-1) (c:=-1) (n:=((m:Int)-0).toNat)) (fun i σ H4=>SB as H3 H4/\∃ (bf:Nat->List (Tr × Int)) (o8 o9 o10 o11 o12 o14:Option V),σ=[some (.ref a),some (.int (f0:Int)),some (.int (m:Int)),some (.ref n),some (.int c),some (.int (l:Int)),some (.ref R),some (.ref G),o8,o9,o10,o11,o12,some (.ref D),o14]/\(∀ j b,as[j]?=some b->(j < m-i\/j=m)->∃ vs,H4 b=some (.lst vs)/\Bears K H4 Gr.pEnc vs (bf j))/\z0q (fun j=>Gr.tot (bf j)) (m+1)<=i/\(∀ j p,p ∈ bf j->(z01 p.1.1/\p.1.1 ∈ ks/\Gr.Named ks p.1.2)/\p.1.2.Ok (60*cc+1)/\1<=p.2/\p.2<=cc/\p.1.2.deep+1+(if j=m then 0 else dl.getD j 0)<=l)/\(i=m->1<=m->bf m ≠ []))
  ⟨SB.refl,fun _=>[],_,_,_,_,_,_,rfl,fun j b hj _=>⟨[],(has j b hj).1,.nil⟩,?_,fun j p hp=>(by cases hp),fun h0 h1=>by omega⟩ (fun _ _ _ _ _=>trivial) (fun i x σ H4 H' hi h4 y=>?_) (fun σ H4 h4=>?_)
 ·have:∀ n,z0q (fun _=>Gr.tot []) n=0:=by
   intro n
   induction n with
   | zero=>rfl
   | succ n ih=>show z0q _ n+0=0; rw [ih]
  rw [this]; exact Nat.le_refl _
 ·obtain ⟨s4,bf,o8,o9,o10,o11,o12,o14,rfl,hbf,hsum,hok,_⟩:=h4
  obtain ⟨rfl,rfl⟩:=y
  have im:i < m:=by omega
  obtain ⟨k,ek,hkm⟩:∃ k:Nat,(0+((((m:Int)-0).toNat:Nat):Int)-1+(i:Nat)*(-1))=(k:Int)/\k+i+1=m:=⟨m-1-i,by omega,by omega⟩
  show gName 8 (V.int (0+((((m:Int)-0).toNat:Nat):Int)-1+(i:Nat)*(-1))) _ _ _
  rw [ek]
  have hR4:=s4.keep _ _ hR3 Ras
  have hD4:=s4.keep _ _ hD3 Das
  have huk:us[k]?=some us[k]:=List.getElem?_eq_getElem (by omega)
  obtain ⟨row,erow,hrd⟩:=hb3.get huk
  obtain ⟨ra,era,hra⟩:=zc3 hrd
  rw [era] at huk
  obtain ⟨ok1,ok2,ok3,ok4,ok5⟩:=hrow.ok k row erow
  have hdk:dl[k]?=some dl[k]:=List.getElem?_eq_getElem (by omega)
  obtain ⟨dp1,dp2,dp3,dp4⟩:=hrow.dp k row dl[k] erow hdk
  have hdk2:dl.getD k 0=dl[k]:=by rw [List.getD_eq_getElem?_getD,hdk]; rfl
  generalize dl[k]=d at hdk dp1 dp2 dp3 dp4 hdk2
  refine ⟨_,rfl,_,rfl,R,us,_,_,rfl,rfl,SqL.of hR4,atI_nat huk,ra,_,rfl,s4.sqT hra,rfl,_,_,rfl,_,_,rfl,_,_,rfl,rfl,?_⟩
  -- what is held
  have hak:as[k]?=some as[k]:=List.getElem?_eq_getElem (by omega)
  obtain ⟨vs,hvs,hbvs⟩:=hbf k as[k] hak (.inl (by omega))
  have tk:Gr.tot (bf k)<=i:=Nat.le_trans (z3i (f:=fun j=>Gr.tot (bf j)) (n:=m+1) (by omega)) hsum
  have lk:=Gr.len_tot (bf k)
  refine ⟨_,rfl,_,rfl,_,rfl,D,_,_,_,rfl,rfl,SqL.of hD4,atI_nat (j:=k) (by rw [List.getElem?_map,hak]; rfl),as[k],vs,bf k,rfl,.inl (SqL.of hvs),hbvs,by omega,⟨60*cc+1,fun p hp=>by have:=hok k p hp; exact ⟨this.1.1,this.2.1,by have:=this.2.2.2.2; omega⟩⟩,fun gv H5 s5 hg=>?_⟩
  have gok:(Gr.tidy (bf k)).Ok (60*cc+1):=by
   refine Gr.tidy_ok (C:=60*cc+1) (fun p hp=>by have:=hok k p hp; exact ⟨this.1.1,this.2.1,this.2.2.1⟩) ?_ (Int.le_refl _)
   have h1:=z6y (bs:=bf k) (C:=cc) fun p hp=>(hok k p hp).2.2.2.1
   have h2:((bf k).length:Int)*cc<=60*cc:=Int.mul_le_mul_of_nonneg_right (by omega) (by omega)
   omega
  have gdp:(Gr.tidy (bf k)).deep<=l-d:=Gr.tidy_deep fun p hp=>by
   have:=(hok k p hp).2.2.2.2
   rw [if_neg (by omega),hdk2] at this
   omega
  have gpt:=Gr.tidy_parts (bf k)
  have gnm:Gr.Named ks (Gr.tidy (bf k)):=Gr.named_tidy fun p hp=>(hok k p hp).1.2
  generalize Gr.tidy (bf k)=g at hg gok gdp gpt gnm
  refine ⟨(by show 2<=sizeLine; decide),fun tt htt=>?_⟩
  have t6:=SB.new (ps:=[]) htt (.tup [.str row.2.1,gv])
  have s56:=s5.trans t6
  have hD6:=s56.keep _ _ hD4 nmn
  have htd:Dp K (upd H5 tt (.tup [.str row.2.1,gv])) (.ref tt) (Gr.tEnc (row.2.1,g)):=Dp.tup (SqT.of upd_same) (.cons (.str _) (.cons (hg.sb t6) .nil))
  generalize hH6:upd H5 tt (.tup [.str row.2.1,gv])=H6 at t6 s56 hD6 htd
  -- the holder's list
  obtain ⟨jp,hjp,hjpk,hjm,hdj⟩:∃ jp:Nat,atI (as.map V.ref) row.1=((as[jp]?).map V.ref)/\(jp < k\/jp=m)/\jp<=m/\d=1+(if jp=m then 0 else dl.getD jp 0):=by
   by_cases h0:row.1=-1
   ·refine ⟨m,?_,.inr rfl,Nat.le_refl _,?_⟩
    ·rw [h0]
     unfold atI ixN
     rw [if_neg (by decide),if_pos (by rw [List.length_map,al]; omega)]
     rw [List.length_map,al,<- List.getElem?_map]
     show (as.map V.ref)[((((m+1:Nat):Int)+-1)).toNat]?=_
     rw [show ((((m+1:Nat):Int)+-1)).toNat=m by omega]
    ·rw [if_pos rfl]; have:=dp3 h0; omega
   ·obtain ⟨h,hh⟩:∃ h:Nat,row.1=(h:Int):=⟨row.1.toNat,by omega⟩
    obtain ⟨e,he,hde⟩:=dp4 h hh
    refine ⟨h,?_,.inl (by omega),by omega,?_⟩
    ·rw [hh]
     have hah:as[h]?=some as[h]:=List.getElem?_eq_getElem (by omega)
     rw [hah]
     exact atI_nat (j:=h) (by rw [List.getElem?_map,hah]; rfl)
    ·rw [if_neg (by omega),List.getD_eq_getElem?_getD,he]
     exact hde
  have haj:as[jp]?=some as[jp]:=List.getElem?_eq_getElem (by omega)
  rw [haj] at hjp
  have jpk:jp ≠ k:=by omega
  obtain ⟨ws,hws,hbws⟩:=hbf jp as[jp] haj (by omega)
  have tj:Gr.tot (bf jp)<=i:=Nat.le_trans (z3i (f:=fun j=>Gr.tot (bf j)) (n:=m+1) (by omega)) hsum
  have lj:=Gr.len_tot (bf jp)
  have wl:=hbws.length
  have hws6:=s56.keep _ _ hws nmn
  refine ⟨_,rfl,_,rfl,D,_,_,_,rfl,rfl,SqL.of hD6,hjp,.inl ⟨rfl,_,SqL.of hws6⟩,_,rfl,_,rfl,(by show 2<=sizeLine; decide),fun pp hpp=>?_⟩
  have t7:=SB.new (ps:=[]) hpp (.tup [.ref tt,.int row.2.2])
  have hws7:=t7.keep _ _ hws6 nmn
  refine ⟨as[jp],ws,_,rfl,rfl,hws7,small1000 (by omega),?_⟩
  have t8:=SB.set (ps:=as) hws7 (List.getElem_mem ..) (.lst (ws++[.ref pp]))
  have s48:SB as H' (upd (upd H6 pp (.tup [.ref tt,.int row.2.2])) as[jp] (.lst (ws++[.ref pp]))):=(s56.trans t7).nil.trans t8
  have s68:SB as H6 (upd (upd H6 pp (.tup [.ref tt,.int row.2.2])) as[jp] (.lst (ws++[.ref pp]))):=t7.nil.trans t8
  obtain ⟨bf',b1,b2,b3⟩:∃ bf':Nat->List (Tr × Int),bf' jp=bf jp++[((row.2.1,g),row.2.2)]/\bf' k=[]/\(∀ j,j ≠ jp->j ≠ k->bf' j=bf j) :=
   ⟨fun j=>if j=jp then bf jp++[((row.2.1,g),row.2.2)] else if j=k then [] else bf j,if_pos rfl,
    by show (if k=jp then _ else if k=k then [] else bf k)=[]; rw [if_neg (fun z=>jpk z.symm),if_pos rfl],
    fun j h1 h2=>by show (if j=jp then _ else if j=k then [] else bf j)=bf j; rw [if_neg h1,if_neg h2]⟩
  refine ⟨s4.trans s48,bf',_,_,_,_,_,_,rfl,fun j b hj hjj=>?_,?_,fun j p hp=>?_,fun h0 h1=>?_⟩
  ·by_cases hq:j=jp
   ·subst hq
    rw [haj] at hj
    have hb':as[j]=b:=Option.some.inj hj
    subst hb'
    rw [b1]
    exact ⟨_,upd_same,Bears.append (hbws.sb s48 Gr.noList_pEnc) (.cons (Dp.tup (t8.sqT (SqT.of upd_same)) (.cons (z07 s68 _ _ (Gr.noList_tEnc _) htd) (.cons (.int _) .nil))) .nil)⟩
   ·have hjk:j ≠ k:=by omega
    rw [b3 j hq hjk]
    obtain ⟨xs,hxs,hbxs⟩:=hbf j b hj (by omega)
    have hne:b ≠ as[jp]:=fun z=>hq (hinj j jp b hj (by rw [haj,z]))
    refine ⟨xs,?_,hbxs.sb s48 Gr.noList_pEnc⟩
    rw [upd_ne hne]
    exact (s56.trans t7).keep _ _ hxs nmn
  ·have e1:=z4c (f:=fun j=>Gr.tot (bf j)) (i:=k) (x:=0) (n:=m+1) (by omega)
   have e2:=z4c (f:=fun j=>if j=k then 0 else Gr.tot (bf j)) (i:=jp) (x:=Gr.tot (bf jp++[((row.2.1,g),row.2.2)])) (n:=m+1) (by omega)
   have e3:z0q (fun j=>Gr.tot (bf' j)) (m+1)=z0q (fun j=>if j=jp then Gr.tot (bf jp++[((row.2.1,g),row.2.2)]) else if j=k then 0 else Gr.tot (bf j)) (m+1):=z2x fun j _=>by
    by_cases h1:j=jp
    ·rw [if_pos h1,h1,b1]
    ·rw [if_neg h1]
     by_cases h2:j=k
     ·rw [if_pos h2,h2,b2]; rfl
     ·rw [if_neg h2,b3 j h1 h2]
   rw [e3]
   have e2':z0q (fun j=>if j=jp then Gr.tot (bf jp++[((row.2.1,g),row.2.2)]) else if j=k then 0 else Gr.tot (bf j)) (m+1)+(if jp=k then 0 else Gr.tot (bf jp))=z0q (fun j=>if j=k then 0 else Gr.tot (bf j)) (m+1)+Gr.tot (bf jp++[((row.2.1,g),row.2.2)]):=e2
   rw [if_neg jpk] at e2'
   have e4:Gr.tot (bf jp++[((row.2.1,g),row.2.2)])=Gr.tot (bf jp)+(1+g.parts):=by rw [Gr.tot_append]; rfl
   have e1':z0q (fun j=>if j=k then 0 else Gr.tot (bf j)) (m+1)+Gr.tot (bf k)=z0q (fun j=>Gr.tot (bf j)) (m+1)+0:=e1
   rw [e4] at e2' ⊢
   omega
  ·by_cases hq:j=jp
   ·subst hq
    rw [b1] at hp
    rcases List.mem_append.mp hp with hp | hp
    ·exact hok j p hp
    ·have:p=((row.2.1,g),row.2.2):=by simpa using hp
     subst this
     exact ⟨⟨ok3.1,ok3.2,gnm⟩,gok,ok4,ok5,by show g.deep+1+_<=l; omega⟩
   ·by_cases h2:j=k
    ·rw [h2,b2] at hp; cases hp
    ·rw [b3 j hq h2] at hp; exact hok j p hp
  ·have:jp=m:=by omega
   rw [<- this,b1]; simp
 ·obtain ⟨s4,bf,o8,o9,o10,o11,o12,o14,rfl,hbf,hsum,hok,hfull⟩:=h4
  have hD4:=s4.keep _ _ hD3 Das
  have ham:as[m]?=some as[m]:=List.getElem?_eq_getElem (by omega)
  obtain ⟨vs,hvs,hbvs⟩:=hbf m as[m] ham (.inr rfl)
  have tm:Gr.tot (bf m)<=m:=by
   have:=z3i (f:=fun j=>Gr.tot (bf j)) (n:=m+1) (i:=m) (by omega)
   have h2:((m:Int)-0).toNat=m:=by omega
   rw [h2] at hsum
   exact Nat.le_trans this hsum
  have lm:=Gr.len_tot (bf m)
  refine ⟨_,rfl,_,rfl,D,_,_,_,rfl,rfl,SqL.of hD4,atI_nat (j:=m) (by rw [List.getElem?_map,ham]; rfl),as[m],vs,bf m,rfl,.inl (SqL.of hvs),hbvs,by omega,⟨60*cc+1,fun p hp=>by have:=hok m p hp; exact ⟨this.1.1,this.2.1,by have:=this.2.2.2.2; omega⟩⟩,fun gv H5 s5 hg=>?_⟩
  refine q gv _ H5 ((sfin H4 s4).trans s5) hg ?_ ?_ ?_ (Gr.named_tidy fun p hp=>(hok m p hp).1.2)
  ·refine (Gr.tidy_ok (C:=60*cc+1) (D:=60*cc+1) (fun p hp=>by have:=hok m p hp; exact ⟨this.1.1,this.2.1,this.2.2.1⟩) ?_ (Int.le_refl _)).mono (by omega)
   have h1:=z6y (bs:=bf m) (C:=cc) fun p hp=>(hok m p hp).2.2.2.1
   have h2:((bf m).length:Int)*cc<=60*cc:=Int.mul_le_mul_of_nonneg_right (by omega) (by omega)
   omega
  ·have:=Gr.tidy_parts (bf m); omega
  ·refine Gr.tidy_deep fun p hp=>?_
   have:=(hok m p hp).2.2.2.2
   rw [if_pos rfl] at this
   omega
abbrev zj1:List Str:=["_law_found"]
theorem zhe:FnScope zj1 ["_law_found"] (defScope z5d):=⟨rfl,rfl,rfl,by decide +kernel,rfl,by decide +kernel,by decide +kernel⟩
theorem zgc (B:BI mg) (F:Fun K "_law_whole" "_law_whole" z5d f fd):FnOk P w K mg base CX0 (1) f fd ["_law_found"] (z3l):=by
 refine F.ok zhe (fun vs H Q E h=>?_) (fun cdv A outer s H vs Q E hr h=>?_)
 ·obtain ⟨i,rfl,_⟩:=h
  rfl
 obtain ⟨i,rfl,q⟩:=h
 have hun2:=hunT hr
 refine ⟨_,pss_one (ps_ret (pe_and (z0z B (pv 0) B.int boot_int) (pe_one (pe_not (z0z B (pv 0) B.bool boot_bool))))),?_⟩
 refine ⟨_,rfl,_,_,"int",true,rfl,.base (.int i),by decide +kernel,_,rfl,iteT ?_⟩
 exact ⟨_,rfl,_,_,"int",false,rfl,.base (.int i),by decide +kernel,_,rfl,q⟩
theorem zix:FnScope ["self","kind"] ["self","kind"] (defScope s_q4):=⟨rfl,rfl,rfl,by decide +kernel,rfl,by decide +kernel,by decide +kernel⟩
theorem zif {C:Addr} (F:Fun K "__init__" "NoKind.__init__" s_q4 f fd):FnOk P w K mg base CX0 1 f fd ["self","kind"] (z9w K C):=by
 refine F.ok zix (fun vs H Q E h=>?_) (fun cdv A outer s H vs Q E hr h=>?_)
 ·obtain ⟨a,y,rfl,_⟩:=h
  rfl
 obtain ⟨a,y,rfl,T,no,ha,q⟩:=h
 refine ⟨_,pss_one (ps_ost (pv 0) (pv 1)),?_⟩
 exact ⟨_,rfl,_,rfl,a,C,rfl,T,no,.inl ⟨ha,q⟩⟩
abbrev N_q0:List Str:=["self","kinds","name","spreading","rows"]
theorem sc_q0:FnScope N_q0 ["self","kinds"] (defScope s_q0):=⟨rfl,rfl,rfl,by decide +kernel,rfl,by decide +kernel,by decide +kernel⟩
theorem ziv {C_NoBook C_Book:Addr} (B:BI mg) (O_NoBook:Own K mg "NoBook" C_NoBook) (T_Book:ClsF K C_Book ["spread_by_name","rows_by_name"]) (G_q18:Got P w K mg base "are_kinds" ["things"] (87) (z3t K)) (F:Fun K "__init__" "Book.__init__" s_q0 f fd):FnOk P w K mg base (L2.CX P w) (88) f fd ["self","kinds"] (z59 K C_Book C_NoBook):=by
 refine F.okX sc_q0 (fun vs H Q E h=>?_) (fun cdv A outer s H vs Q E hr h=>?_)
 ·obtain ⟨x,dx,l,xs,ts,rfl,_⟩:=h
  rfl
 obtain ⟨x,dx,l,xs,ts,rfl,hx,hdx,hs,ha,hf,hl,q,qE⟩:=h
 have hun2:=hunT hr
 refine ⟨_,pss_cons (ps_if (pt_not (pt_val (z00 G_q18 (hr.mono (by omega)) rfl (pa_cons (pv 1) pa_nil)))) (pss_one (ps_raise rfl (takes_of rfl rfl rfl rfl) (pmk_own PySem.F.excBase_ValueError O_NoBook.q O_NoBook.gC O_NoBook.k (raises_own O_NoBook.s O_NoBook.t) rfl))) pss_nil)
  (pss_cons (ps_fld (pv 0) (pe_dc (own:=[("name",2),("spreading",3),("rows",4)]) (g:=(gTup K 3 (gCons (gName 2) (gCons (gName 3) (gCons (gName 4) gNil))))) (tt:=tYes) (tk:=(tVar 2)) (tv:=(tVar 3)) rfl sc_q0.nd (pi_list (pv 1)) (blkOk_by (N:=N_q0) (sc:=defScope s_q0) (by decide +kernel)) (fun _ _ _ _ _=>(pg_tup rfl (pgs_cons (pg_name (i:=2) sc_q0.nd rfl (.inl rfl)) (pgs_cons (pg_name (i:=3) sc_q0.nd rfl (.inl rfl)) (pgs_cons (pg_name (i:=4) sc_q0.nd rfl (.inl rfl)) pgs_nil))))) (fun _ _ _ _ _=>pts_nil) (fun _ _ _ _ _=>(pv 2)) (fun _ _ _ _ _=>(pv 3))) rfl)
  (pss_one (ps_fld (pv 0) (pe_dc (own:=[("name",2),("spreading",3),("rows",4)]) (g:=(gTup K 3 (gCons (gName 2) (gCons (gName 3) (gCons (gName 4) gNil))))) (tt:=tYes) (tk:=(tVar 2)) (tv:=(tCB (fun xs H Q=>∃ p ys,xs=[.ref p]/\((SqL K H p ys/\∀ l,H l=none->Q (.ref l) (upd H l (.tup ys)))\/(SqT K H p ys/\Q (.ref p) H))) (tCons (tVar 4) tNil))) rfl sc_q0.nd (pi_list (pv 1)) (blkOk_by (N:=N_q0) (sc:=defScope s_q0) (by decide +kernel)) (fun _ _ _ _ _=>(pg_tup rfl (pgs_cons (pg_name (i:=2) sc_q0.nd rfl (.inl rfl)) (pgs_cons (pg_name (i:=3) sc_q0.nd rfl (.inl rfl)) (pgs_cons (pg_name (i:=4) sc_q0.nd rfl (.inl rfl)) pgs_nil))))) (fun _ _ _ _ _=>pts_nil) (fun _ _ _ _ _=>(pv 2)) (fun _ _ _ _ _=>(pe_callTy call_tuple_of rfl B.tuple boot_tuple (pa_cons (pv 4) pa_nil)))) rfl))),?_⟩
 refine ⟨_,rfl,l,xs,ts,rfl,SqL.of hs,ha,hf,hl,fun b H1 s1 hb=>?_⟩
 refine ⟨_,rfl,?_⟩
 cases b with
 | false=>exact iteT (qE (fun z=>nomatch (hb.mpr z)) H1 s1)
 | true =>
 refine iteF ?_
 obtain ⟨bk,et,ok⟩:=hb.mp rfl
 subst et
 have q2:=q bk rfl ok
 have ha1:=(ha.sb s1).kd
 have hs1:=s1.keep _ _ hs nmn
 have hx1:=s1.keep _ _ hx nmn
 have xlen:=ha1.length
 have szl:=sizeLine_eq
 have b8:=ok.len
 have hlx:l ≠ x:=ne_of hs hx (fun z=>nomatch z)
 refine ⟨_,rfl,l,rfl,⟨_,SqL.of hs1⟩,fun D hD=>?_⟩
 refine z8v (walk_list (xs:=xs)) hD (by omega) (fun i kvs _=>kvs=Bk.spKV (bk.take i)) rfl (fun H2 s2=>s2.sqL nmn (SqL.of hs1)) (fun _ _ _ _ _ h=>h) (fun Pv i y H2 H' kvs hi s2 yy hR hl2 fin _=>?_) (fun kvs H2 s2 hD2 hR _=>?_)
 ·obtain ⟨rfl,ey⟩:=yy
  obtain ⟨k,ek,t,r,zs,rfl,h1,h2,h3,_⟩:=ha1.get ey
  refine ⟨t,_,rfl,s2.sqT h1,rfl,_,_,rfl,_,_,rfl,_,_,rfl,rfl,rfl,?_⟩
  refine ⟨_,rfl,_,rfl,fin (Sum.inr k.n) _ _ SB.refl ?_⟩
  rw [hR,z1j,List.take_add_one,ek,Option.toList_some,Bk.spKV,Bk.spKV,List.map_append]
  ·rfl
  ·intro p hp e
   obtain ⟨j,hj,rfl⟩:=List.mem_map.mp hp
   injection e with e
   exact Bk.nodup_at ok.nd ek j hj e
 ·rw [xlen,List.take_length] at hR
  subst hR
  have hx2:=s2.keep _ _ hx1 nmn
  have hl2:=s2.keep _ _ hs1 nmn
  have ha2:=ha1.sb s2 NoLst.nil
  refine ⟨_,rfl,x,_,dx,_,rfl,hx2,T_Book.c,T_Book.no _ (by simp),by decide,?_⟩
  have e1:putF (Str.ofString "spread_by_name") (V.ref D) []=[(Str.ofString "spread_by_name",V.ref D)]:=rfl
  rw [e1]
  have t3:SB [x] H2 (upd H2 x (.ins C_Book dx [(Str.ofString "spread_by_name",V.ref D)])):=SB.setG hx2 (by simp) (fun _ z=>nomatch z) (fun _ _ z=>nomatch z) _
  have nl3:NoLst H2 [] [x]:=fun p hp=>.inr fun xs z=>by rw [List.mem_singleton.mp hp,hx2] at z; cases z
  have ha3:=ha2.sb t3 nl3
  have hl3:=t3.keep _ _ hl2 (by simpa using hlx)
  have hx3:upd H2 x (.ins C_Book dx [(Str.ofString "spread_by_name",V.ref D)]) x=some (.ins C_Book dx [(Str.ofString "spread_by_name",V.ref D)]):=upd_same
  have hD3:=t3.keep _ _ hD2 (by simpa using ne_of hD2 hx2 (fun z=>nomatch z))
  have s03:=((s1.trans s2).nil (ps:=[x])).trans t3
  generalize upd H2 x (.ins C_Book dx [(Str.ofString "spread_by_name",V.ref D)])=H3 at t3 ha3 hl3 hx3 hD3 s03
  refine ⟨_,rfl,l,rfl,⟨_,SqL.of hl3⟩,fun D2 hn2=>?_⟩
  refine z8v (walk_list (xs:=xs)) hn2 (by omega) (fun i kvs H4=>∃ us,kvs=Bk.rowKV (bk.take i) us/\Bears K H4 Kd.rowE us (bk.take i)) ⟨[],rfl,.nil⟩ (fun H4 s4=>s4.sqL nmn (SqL.of hl3)) (fun i us H4 H5 s5 ⟨us',e,hb⟩=>⟨us',e,hb.sb s5 Kd.noList_rowE⟩) (fun Pv i y H4 H' kvs hi s4 yy hR hl4 fin _=>?_) (fun kvs H4 s4 hD4 hR _=>?_)
  ·obtain ⟨rfl,ey⟩:=yy
   obtain ⟨us,rfl,hb⟩:=hR
   obtain ⟨k,ek,t,r,zs,rfl,h1,h2,h3,_⟩:=ha3.get ey
   refine ⟨t,_,rfl,s4.sqT h1,rfl,_,_,rfl,_,_,rfl,_,_,rfl,rfl,rfl,?_⟩
   refine ⟨_,rfl,_,rfl,r,zs,rfl,.inl ⟨SqL.of (s4.keep _ _ h2 nmn),fun p hp=>?_⟩⟩
   have t5:=SB.new (ps:=[]) hp (.tup zs)
   refine fin (Sum.inr k.n) _ _ t5 ⟨us++[.ref p],?_,?_⟩
   ·rw [z1j,List.take_add_one,ek,Option.toList_some,Bk.rowKV,Bk.rowKV,List.zipWith_append hb.length.symm]
    ·rfl
    ·intro p hp e
     obtain ⟨j,hj,e2⟩:=z7s hp
     rw [e2] at e
     injection e with e
     exact Bk.nodup_at ok.nd ek j hj e
   ·rw [List.take_add_one,ek,Option.toList_some]
    exact Bears.append (hb.sb t5 Kd.noList_rowE) (.cons (.tup (.inl (.inl upd_same)) (Bears.dp ((h3.sb s4 Ru.noList_enc).sb t5 Ru.noList_enc))) .nil)
  ·rw [xlen,List.take_length] at hR
   obtain ⟨us,rfl,hb⟩:=hR
   have hx4:=s4.keep _ _ hx3 nmn
   refine ⟨_,rfl,x,_,dx,_,rfl,hx4,T_Book.c,T_Book.no _ (by simp),by simp,?_⟩
   have t5:SB [x] H4 (upd H4 x (.ins C_Book dx (bkF D D2))):=SB.setG hx4 (by simp) (fun _ z=>nomatch z) (fun _ _ z=>nomatch z) _
   refine q2 _ ((s03.trans s4.nil).trans t5) ⟨x,dx,D,D2,us,rfl,upd_same,?_,?_,hb.sb t5 Kd.noList_rowE⟩
   ·exact t5.keep _ _ (s4.keep _ _ hD3 nmn) (by simpa using ne_of (s4.keep _ _ hD3 nmn) hx4 (fun z=>nomatch z))
   ·exact t5.keep _ _ hD4 (by simpa using ne_of hD4 hx4 (fun z=>nomatch z))
abbrev N_q1:List Str:=["self"]
theorem zit:FnScope N_q1 ["self"] (defScope s_q1):=⟨rfl,rfl,rfl,by decide +kernel,rfl,by decide +kernel,by decide +kernel⟩
theorem zj3 {C_Book:Addr} (B:BI mg) (T_Book:ClsF K C_Book ["spread_by_name","rows_by_name"]) (F:Fun K "names" "Book.names" s_q1 f fd):FnOk P w K mg base CX0 (1) f fd ["self"] (z3c K C_Book):=by
 refine F.ok zit (fun vs H Q E h=>?_) (fun cdv A outer s H vs Q E hr h=>?_)
 ·obtain ⟨v,b,rfl,_⟩:=h
  rfl
 obtain ⟨v,b,rfl,hb,hl,q⟩:=h
 have hun2:=hunT hr
 refine ⟨_,pss_one (ps_ret (pe_callTy (call_listD rfl) rfl B.list boot_list (pa_cons (pe_fld (pv 0) rfl) pa_nil))),?_⟩
 obtain ⟨a,dx,d1,d2,us,rfl,h1,h2,h3,h4⟩:=hb
 refine ⟨_,rfl,a,_,dx,_,_,rfl,h1,T_Book.c,T_Book.no _ (by simp),rfl,d1,_,rfl,.inl h2,fun p hp=>?_⟩
 exact q p _ (SB.new hp _) hp (by rw [upd_same,Bk.spKV,List.map_map,List.map_map]; rfl)
abbrev N_q3:List Str:=["self","name"]
theorem zia:FnScope N_q3 ["self","name"] (defScope s_q3):=⟨rfl,rfl,rfl,by decide +kernel,rfl,by decide +kernel,by decide +kernel⟩
theorem zje {C_Book C_NoKind:Addr} (B:BI mg) (T_Book:ClsF K C_Book ["spread_by_name","rows_by_name"]) (G_q22:GotX P w K mg base "check_kind" ["book","name"] (3) (z2j K C_Book C_NoKind)) (F:Fun K "spreads" "Book.spreads" s_q3 f fd):FnOk P w K mg base (L2.CX P w) (4) f fd ["self","name"] (z2b K C_Book C_NoKind):=by
 refine F.okX zia (fun vs H Q E h=>?_) (fun cdv A outer s H vs Q E hr h=>?_)
 ·obtain ⟨v,b,n,rfl,_⟩:=h
  rfl
 obtain ⟨v,b,n,rfl,hb,hl,qk,qE⟩:=h
 have hun2:=hunT hr
 refine ⟨_,pss_cons (ps_expr (z0n G_q22 (hr.mono (by omega)) rfl (takes_of rfl rfl rfl rfl) (pa_cons (pv 0) (pa_cons (pv 1) pa_nil))))
  (pss_one (ps_ret (pe_dget (by show A.units+3+1 < cLine; omega) (pe_fld (pv 0) rfl) (pv 1) (fun _ _=>rfl)))),?_⟩
 refine ⟨_,rfl,_,rfl,_,b,n,rfl,hb,hl,fun k e H1 s1=>?_,qE⟩
 obtain ⟨a,dx,d1,d2,us,rfl,h1,h2,h3,h4⟩:=hb.sb0 s1
 refine ⟨_,rfl,a,_,dx,_,_,rfl,h1,T_Book.c,T_Book.no _ (by simp),rfl,_,rfl,d1,V.bl k.w,rfl,getK h2 (by rw [Bk.spKV_val,e]; rfl),qk k e H1 s1⟩
abbrev N_q2:List Str:=["self","name"]
theorem zja:FnScope N_q2 ["self","name"] (defScope s_q2):=⟨rfl,rfl,rfl,by decide +kernel,rfl,by decide +kernel,by decide +kernel⟩
theorem zid {C_Book C_NoKind:Addr} (B:BI mg) (T_Book:ClsF K C_Book ["spread_by_name","rows_by_name"]) (G_q22:GotX P w K mg base "check_kind" ["book","name"] (3) (z2j K C_Book C_NoKind)) (F:Fun K "rules" "Book.rules" s_q2 f fd):FnOk P w K mg base (L2.CX P w) (4) f fd ["self","name"] (z6b K C_Book C_NoKind):=by
 refine F.okX zja (fun vs H Q E h=>?_) (fun cdv A outer s H vs Q E hr h=>?_)
 ·obtain ⟨v,b,n,rfl,_⟩:=h
  rfl
 obtain ⟨v,b,n,rfl,hb,hl,hr4,qk,qE⟩:=h
 have hun2:=hunT hr
 refine ⟨_,pss_cons (ps_expr (z0n G_q22 (hr.mono (by omega)) rfl (takes_of rfl rfl rfl rfl) (pa_cons (pv 0) (pa_cons (pv 1) pa_nil))))
  (pss_one (ps_ret (pe_callTy call_list_of rfl B.list boot_list (pa_cons (pe_dget (by show A.units+3+1 < cLine; omega) (pe_fld (pv 0) rfl) (pv 1) (fun _ _=>rfl)) pa_nil)))),?_⟩
 refine ⟨_,rfl,_,rfl,_,b,n,rfl,hb,hl,fun k e H1 s1=>?_,qE⟩
 obtain ⟨a,dx,d1,d2,us,rfl,h1,h2,h3,h4⟩:=hb.sb0 s1
 obtain ⟨u,hv,hu⟩:=Bk.rowKV_val n h4 e
 refine ⟨_,rfl,a,_,dx,_,_,rfl,h1,T_Book.c,T_Book.no _ (by simp),rfl,_,rfl,d2,u,rfl,getK h3 hv,?_⟩
 cases hu with
 | tup ht hd=>exact ⟨_,_,rfl,.inr ht,fun l hl=>qk k e l _ _ (s1.trans (SB.new hl _)) (s1.dom l hl) upd_same ((Bears.of hd).sb (SB.new (ps:=[]) hl _) Ru.noList_enc)⟩
abbrev N_q5:List Str:=["_law_book","_law_here","_law_bound","_law_found"]
theorem sc_q5:FnScope N_q5 ["_law_book","_law_here","_law_bound"] (defScope s_q5):=⟨rfl,rfl,rfl,by decide +kernel,rfl,by decide +kernel,by decide +kernel⟩
theorem zik {C_Book:Addr} {c:Str->Addr} (B:BI mg) (T:ErrsM K mg c eC eN eK) (G_q31:GotX P w K mg base "fewest_falls" ["book","grove","bound"] (75) (z2o K C_Book (c "TooLong"))) (F:Fun K "_law_fewest" "_law_fewest" s_q5 f fd):FnOk P w K mg base CX0 (80) f fd ["_law_book","_law_here","_law_bound"] (z4i K C_Book):=by
 refine F.ok sc_q5 (fun vs H Q E h=>?_) (fun cdv A outer s H vs Q E hr h=>?_)
 ·obtain ⟨v,u,b,g,D,C,rfl,_⟩:=h
  rfl
 obtain ⟨v,u,b,g,D,C,rfl,hv,ok,hg,go,hC,hd,hp,hk,hD,q0,q1⟩:=h
 have hun2:=hunT hr
 refine ⟨_,pss_cons (ps_set (i:=3) sc_q5.nd rfl (.inl rfl) pe_non)
  (pss_cons (ps_try_only (tb:=fun W=>(tAsg (tCallS (z2o K C_Book (c "TooLong")) (WE W) (tCons (tVar 0) (tCons (tVar 1) (tCons (tVar 2) tNil)))) (gName 3))) (ts:=fun a cls d=>(tAsg (tC .non) (gName 3))) (Wout:=fun _ _ _ _=>False) rfl rfl ⟨rfl,by decide,Or.inl (T.glo "TooLong" (.tail _ (.tail _ (.tail _ (.tail _ (.tail _ (.tail _ (.head _))))))))⟩ takes0
   (fun W pn xe tk _=>by exact (pss_one (ps_set (i:=3) sc_q5.nd rfl (.inl rfl) (z0n G_q31 (hr.mono (by omega)) rfl tk (pa_cons (pv 0) (pa_cons (pv 1) (pa_cons (pv 2) pa_nil)))))))
   (fun a oe cls d pn hz hf=>by exact (pss_one (ps_set (i:=3) sc_q5.nd rfl (.inl rfl) pe_non))))
  (pss_one (ps_ret (pv 3)))),?_⟩
 refine ⟨_,rfl,_,rfl,_,rfl,v,u,b,g,D,C,rfl,hv,ok,hg,go,hC,hd,hp,hk,hD,fun hz H1 s1=>⟨_,rfl,q0 hz H1 s1⟩,fun hz H1 s1=>?_⟩
 refine ⟨true,(T.exo "TooLong" (.head _) "TooLong" (by decide +kernel)).trans (by rw [decide_eq_true rfl]),fun _ x hx=>?_,fun z=>nomatch z⟩
 exact ⟨_,rfl,q1 hz H1 s1⟩
abbrev N_q9:List Str:=["_law_book","_law_here","_law_bound","_law_left","_law_purse_here","_law_some","_law_place","_law_rule","_law_next","_law_told"]
theorem sc_q9:FnScope N_q9 ["_law_book","_law_here","_law_bound","_law_left","_law_purse_here"] (defScope s_q9):=⟨rfl,rfl,rfl,by decide +kernel,rfl,by decide +kernel,by decide +kernel⟩
theorem zj0 {C_Book C_NoKind C_NoPlace C_NoRule C_NoNumber C_TooGreat:Addr} (B:BI mg) (G_q26:GotX P w K mg base "choices" ["book","grove"] (76) (z29 K C_Book C_NoKind)) (G_q13:Got P w K mg base "_law_take" ["_law_purse_here","_law_many"] (1) (z0v)) (G_q30:GotX P w K mg base "fallen" ["book","grove","place","rule","number"] (74) (z2k K C_Book C_NoPlace C_NoRule C_NoNumber C_TooGreat)) (G_q5:Got P w K mg base "_law_fewest" ["_law_book","_law_here","_law_bound"] (80) (z4i K C_Book)) (F:Fun K "_law_no_better" "_law_no_better" s_q9 f fd):FnOk P w K mg base CX0 (82) f fd ["_law_book","_law_here","_law_bound","_law_left","_law_purse_here"] (z4q K C_Book):=by
 refine F.ok sc_q9 (fun vs H Q E h=>?_) (fun cdv A outer s H vs Q E hr h=>?_)
 ·obtain ⟨v,u,p,b,g,D,L,j,rfl,_⟩:=h
  rfl
 obtain ⟨v,u,p,b,g,D,L,j,rfl,hv,BB,hg,hW,hj,hL,gne,hp,q⟩:=h
 have hun2:=hunT hr
 refine ⟨_,pss_cons (ps_set (i:=5) sc_q9.nd rfl (.inl rfl) (z3a G_q26 (hr.mono (by omega)) rfl (pa_cons (pv 0) (pa_cons (pv 1) pa_nil))))
  (pss_cons (ps_asg (pe_ix ix_list (pv 5) (z00 G_q13 (hr.mono (by omega)) rfl (pa_cons (pv 4) (pa_cons (pe_callB call_len_seq rfl B.len PySem.boot_len (pa_cons (pv 5) pa_nil)) pa_nil))) (fun _ _=>rfl)) (pg_tup rfl (pgs_cons (pg_name (i:=6) sc_q9.nd rfl (.inl rfl)) (pgs_cons (pg_name (i:=7) sc_q9.nd rfl (.inl rfl)) pgs_nil))))
  (pss_cons (ps_set (i:=8) sc_q9.nd rfl (.inl rfl) (pe_ix ix_tup (z3a G_q30 (hr.mono (by omega)) rfl (pa_cons (pv 0) (pa_cons (pv 1) (pa_cons (pv 6) (pa_cons (pv 7) (pa_cons (pv 2) pa_nil)))))) pe_int (fun _ _=>rfl)))
  (pss_cons (ps_set (i:=9) sc_q9.nd rfl (.inl rfl) (z00 G_q5 (hr.mono (by omega)) rfl (pa_cons (pv 0) (pa_cons (pv 8) (pa_cons (pv 2) pa_nil)))))
  (pss_one (ps_ret (pe_or (pe_cmpR op_isN (pv 9) pe_non (nomark _)) (pe_one (pe_cmpR op_ge (pv 9) (pe_op op_sub (pv 3) pe_int) (nomark _))))))))),?_⟩
 have szl:=sizeLine_eq
 have b8:=BB.ok.len
 have d3:=BB.d3
 have d0:=BB.d0
 have gd:=hW.dp
 obtain ⟨gp,gp2,j40⟩:=hW.pts BB hL (Nat.le_of_lt hj)
 have gp2:=gp2 hj
 have nmok:∀ x ∈ g.within,z01 x.1.1:=fun x hx=>(z1o hW.ok x hx).1
 refine ⟨_,rfl,_,rfl,v,u,b,g,rfl,hv,hg,BB.ok,by omega,by omega,nmok,hW.nm,fun CL us H1 s1 nCL hCL hch=>?_⟩
 refine z09 ?_
 have ul:=hch.length
 have cl:=zf9 BB.ok (g.bk 0)
 have bl:=Gr.bk_len g 0
 obtain ⟨x0,hx0⟩:∃ x,x ∈ g.bk 0:=by
  cases e:g.bk 0 with
  | nil=>exact absurd e (Gr.bk_ne g 0 gne)
  | cons x xs=>exact ⟨x,mcs ..⟩
 have c1:=List.length_pos_of_mem (z87 hW.nm (k:=x0.2) (pl:=x0.1) hx0)
 have hp1:=hp.sb s1
 have CLp:CL ≠ p:=fun z=>by rw [z] at nCL; obtain ⟨_,_,e,_⟩:=hp; rw [e] at nCL; cases nCL
 refine ⟨_,rfl,_,rfl,_,rfl,CL,us,rfl,.inl (SqL.of hCL),p,(us.length:Nat),rfl,hp1,by omega,by omega,fun rt H2 rt0 rtm s2 hp2=>?_⟩
 have hCL2:=s2.keep _ _ hCL (by simpa using CLp)
 obtain ⟨r,rfl⟩:∃ r:Nat,rt=(r:Int):=⟨rt.toNat,by omega⟩
 obtain ⟨x,ex⟩:∃ x,us[r]?=some x:=⟨us[r],List.getElem?_eq_getElem (by omega)⟩
 obtain ⟨c,ec,hdp⟩:=hch.get ex
 obtain ⟨k,kd,ru,hbare,eg,km,ekn,er,rum,rok,rnm⟩:=zib BB.ok hW.nm (List.mem_of_getElem? ec)
 have hdp2:=z07 s2 _ _ (z14 _) hdp
 refine ⟨CL,_,_,_,rfl,rfl,SqL.of hCL2,atI_nat ex,?_⟩
 cases (hdp2:Dp K H2 x (.tuple [z0u c.1,.int ((c.2:Nat):Int)])) with
 | @tup T us' _ hT hda =>
 cases hda with
 | cons k1' hda =>
 cases hda with
 | cons k2 hda =>
 cases hda
 cases k2
 obtain ⟨pa,rfl,hpa⟩:=z2c k1'
 refine ⟨T,_,rfl,hT,rfl,_,_,rfl,_,_,rfl,rfl,?_⟩
 have s02:SB [p] H H2:=s1.nil.trans s2
 have hv2:BkA K C_Book H2 v b:=hv.sb s02 fun q hq=>by
  rw [List.mem_singleton.mp hq]
  obtain ⟨_,_,e,_⟩:=hp
  exact .inr ⟨_,e⟩
 obtain ⟨nd,np⟩:=hW.any BB hL hj hbare (Gr.grw_deep rok D) (Gr.grw_parts rok D) D
 refine ⟨_,rfl,_,rfl,_,rfl,_,rfl,_,rfl,?_⟩
 refine nilI ?_
 refine z7k (pl:=c.1) (i:=c.2) (n:=D) (r:=ru) rfl hv2 BB.ok (GA.sb hg s02) hW.ok (by omega) (by omega) hW.nm hpa hbare eg er d0 (Int.lt_of_le_of_lt d3 (by decide +kernel)) (fun _ t H4 s4 _ hgp=>?_) (fun hout=>absurd (show z2d _ from ⟨by omega,by omega⟩) hout)
 obtain ⟨t',u',a',et,hst,hu,_⟩:=z94 hgp
 cases et
 refine ⟨t,_,_,_,rfl,rfl,hst,atI_nat (j:=0) rfl,?_⟩
 refine z09 ?_
 have so:=Gr.stk_ok (b:=b) (n:=D) (fr:=Gr.grw ru D) (F:=1000000001*D+2000000002) d0 (by omega) (Gr.grw_ok rok d0) hW.ok hbare
 have snm:=Gr.stk_named (b:=b) (n:=D) (Gr.grw_named rnm D) hbare hW.nm
 have hcg:Gr.fw b D g < CAP:=by have:=hW.cnt; omega
 have fl:=Gr.any_one (b:=b) (d:=D) (fr:=Gr.grw ru D) (F:=1000000001*D+2000000002) hW.ok (by omega) (Gr.grw_ok rok d0) hbare d0 hcg
 have bb:(60*10 ^ 58+1+5000000010*(j:Int)+(1000000001*D+2000000002)+D+2:Int)<=2 ^ 1000:=by
  have:=z84 (j+1) (by omega)
  omega
 refine ⟨_,rfl,_,rfl,_,rfl,v,u',b,_,D,_,rfl,hv2.sb0 s4,BB.ok,hu,so,bb,by omega,by omega,snm,BB.Dok,fun hlt2 H7 s7=>?_,fun hge2 H7 s7=>?_⟩
 ·refine z09 ?_
  refine ⟨_,rfl,rfl,_,rfl,?_⟩
  rw [decide_eq_false (fun z=>nomatch z)]
  refine iteF ⟨_,rfl,_,rfl,_,_,rfl,rfl,_,_,rfl,rfl,?_⟩
  show Q (.bl (decide (Gr.fw b D g-1<=Gr.fw b D (Gr.stk b D (Gr.grw ru D) c.1 g).1))) _
  rw [decide_eq_true (show Gr.fw b D g-1<=Gr.fw b D (Gr.stk b D (Gr.grw ru D) c.1 g).1 by omega)]
  exact q _ (s02.trans (s4.trans s7).nil) ((hp2.sb s4).sb s7)
 ·refine z09 ?_
  refine ⟨_,rfl,rfl,_,rfl,?_⟩
  rw [decide_eq_true rfl]
  exact iteT (q _ (s02.trans (s4.trans s7).nil) ((hp2.sb s4).sb s7))
abbrev ziw:List Str:=["_law_book","_law_here","_law_bound","_law_left","_law_said","_law_fall","_law_next","_law_told"]
theorem sc_q11:FnScope ziw ["_law_book","_law_here","_law_bound","_law_left","_law_said"] (defScope z4y):=⟨rfl,rfl,rfl,by decide +kernel,rfl,by decide +kernel,by decide +kernel⟩
theorem zhq {C_Book C_NoPlace C_TooLong C_NoKind C_NoRule C_NoNumber C_TooGreat:Addr} (B:BI mg) (G_q52:GotX P w K mg base "short_fall" ["book","grove","bound"] (77) (z4k K C_Book C_NoPlace C_TooLong)) (G_q16:Got P w K mg base "_law_whole" ["_law_found"] (1) (z3l)) (G_q26:GotX P w K mg base "choices" ["book","grove"] (76) (z29 K C_Book C_NoKind)) (G_q30:GotX P w K mg base "fallen" ["book","grove","place","rule","number"] (74) (z2k K C_Book C_NoPlace C_NoRule C_NoNumber C_TooGreat)) (G_q5:Got P w K mg base "_law_fewest" ["_law_book","_law_here","_law_bound"] (80) (z4i K C_Book)) (F:Fun K "_law_short" "_law_short" z4y f fd):FnOk P w K mg base CX0 (82) f fd ["_law_book","_law_here","_law_bound","_law_left","_law_said"] (z4m K C_Book):=by
 refine F.ok sc_q11 (fun vs H Q E h=>?_) (fun cdv A outer s H vs Q E hr h=>?_)
 ·obtain ⟨v,u,b,g,D,L,n,j,rfl,_⟩:=h
  rfl
 obtain ⟨v,u,b,g,D,L,n,j,rfl,hv,BB,hg,hW,hj,hL,gne,n0,nD,q⟩:=h
 have hun2:=hunT hr
 refine ⟨_,pss_cons (ps_set (i:=5) sc_q11.nd rfl (.inl rfl) (z3a G_q52 (hr.mono (by omega)) rfl (pa_cons (pv 0) (pa_cons (pv 1) (pa_cons (pv 2) pa_nil)))))
  (pss_cons (ps_if (PW.pt (pw_or (pt_not (pt_val (z0z B (pv 5) B.tuple boot_tuple))) (pw_or (pt_cmpR op_ne (pe_callB call_len_seq rfl B.len PySem.boot_len (pa_cons (pv 5) pa_nil)) pe_int (nomark _)) (pw_or1 (pt_not (pt_val (z00 G_q16 (hr.mono (by omega)) rfl (pa_cons (pe_ix ix_tup (pv 5) pe_int (fun _ _=>rfl)) pa_nil)))))))) (pss_one (ps_ret pe_non)) pss_nil)
  (pss_cons (ps_if (pt_cmpR (op_notInD (by show A.units+3+65 < cLine; omega)) (pv 5) (z3a G_q26 (hr.mono (by omega)) rfl (pa_cons (pv 0) (pa_cons (pv 1) pa_nil))) (by rfl)) (pss_one (ps_ret pe_non)) pss_nil)
  (pss_cons (ps_set (i:=6) sc_q11.nd rfl (.inl rfl) (pe_ix ix_tup (z3a G_q30 (hr.mono (by omega)) rfl (pa_cons (pv 0) (pa_cons (pv 1) (pa_cons (pe_ix ix_tup (pv 5) pe_int (fun _ _=>rfl)) (pa_cons (pe_ix ix_tup (pv 5) pe_int (fun _ _=>rfl)) (pa_cons (pv 4) pa_nil)))))) pe_int (fun _ _=>rfl)))
  (pss_cons (ps_set (i:=7) sc_q11.nd rfl (.inl rfl) (z00 G_q5 (hr.mono (by omega)) rfl (pa_cons (pv 0) (pa_cons (pv 6) (pa_cons (pv 2) pa_nil)))))
  (pss_cons (ps_if (PW.pt (pw_or (pt_not (pt_val (z00 G_q16 (hr.mono (by omega)) rfl (pa_cons (pv 7) pa_nil)))) (pw_or (pt_cmpR op_lt (pv 7) pe_int (nomark _)) (pw_or1 (pt_cmpR op_ge (pv 7) (pv 3) (nomark _)))))) (pss_one (ps_ret pe_non)) pss_nil)
  (pss_cons (ps_if (PW.pt (pw_and (pt_cmpR op_eq (pv 4) (pv 2) (nomark _)) (pw_and1 (pt_cmpR op_ne (pv 7) (pe_op op_sub (pv 3) pe_int) (nomark _))))) (pss_one (ps_ret pe_non)) pss_nil)
  (pss_one (ps_ret (pe_tup (pa_cons (pv 6) (pa_cons (pv 7) pa_nil))))))))))),?_⟩
 have szl:=sizeLine_eq
 have b8:=BB.ok.len
 have d3:=BB.d3
 have d0:=BB.d0
 have gd:=hW.dp
 obtain ⟨gp,gp2,j40⟩:=hW.pts BB hL (Nat.le_of_lt hj)
 have gp2:=gp2 hj
 have nmok:∀ x ∈ g.within,z01 x.1.1:=fun x hx=>(z1o hW.ok x hx).1
 have hcg:Gr.fw b D g < CAP:=by have:=hW.cnt; omega
 refine ⟨_,rfl,_,rfl,_,rfl,v,u,b,g,D,_,rfl,hv,BB.ok,hg,hW.ok,z84 j (by omega),by omega,by omega,hW.nm,BB.Dok,fun hge=>absurd hge (by omega),fun _ hz=>absurd hz gne,fun _ pl k epl hbk hbare t H1 s1 hch=>?_⟩
 refine z09 ?_
 have hch1:=hch
 cases (hch1:Dp K H1 (.ref t) (.tuple [z0u pl,.int ((0:Nat):Int)])) with
 | @tup _ us' _ hT hda =>
 cases hda with
 | cons k1 hda =>
 cases hda with
 | cons k2 hda =>
 cases hda
 cases k2
 obtain ⟨pa,rfl,hpa⟩:=z2c k1
 refine ⟨_,rfl,_,_,"tuple",true,rfl,z2y hT,by decide +kernel,_,rfl,iteF ?_⟩
 refine ⟨_,rfl,t,_,rfl,.inr hT,rfl,_,rfl,iteF ?_⟩
 refine ⟨_,rfl,t,_,_,_,rfl,rfl,hT,atI_nat (j:=1) rfl,_,rfl,_,rfl,iteF ?_⟩
 refine ⟨_,rfl,_,rfl,_,rfl,v,u,b,g,rfl,hv.sb0 s1,GA.sb hg s1,BB.ok,by omega,by omega,nmok,hW.nm,fun CL us H2 s2 nCL hCL hcs=>?_⟩
 refine ⟨chE (pl,0),_,z07 s2 _ _ (z14 _) hch,Dp.lst (SqL.of hCL) hcs.dp,zao _,zak _,_,rfl,?_⟩
 rw [zih (z87 hW.nm hbk)]
 refine iteF ?_
 have s02:=s1.trans s2
 have hT2:=s2.sqT hT
 have hpa2:=s2.sqT hpa
 have hv2:=hv.sb0 s02
 have hg2:=GA.sb hg s02
 obtain ⟨kd,eg⟩:=Bk.get_of (Gr.bare_named hW.nm hbare)
 have gz:Gr.grw noR n=.nil:=zis n n0
 have nx:=hW.next BB hL hj hbare n0 nD
 obtain ⟨np,_,_⟩:=nx.pts BB hL hj
 have nd:=nx.dp
 have fl:=Gr.short_less (b:=b) (d:=D) (n:=n) hW.ok hbare d0 n0 nD hcg
 have fz:=Gr.fw_nn (b:=b) (d:=D) nx.ok d0
 refine ⟨_,rfl,_,rfl,_,rfl,t,_,_,_,rfl,rfl,hT2,atI_nat (j:=0) rfl,_,rfl,t,_,_,_,rfl,rfl,hT2,atI_nat (j:=1) rfl,_,rfl,?_⟩
 refine nilI ?_
 refine z7k (pl:=pl) (i:=0) (n:=n) (r:=noR) rfl hv2 BB.ok hg2 hW.ok (by omega) (by omega) hW.nm hpa2 hbare eg rfl n0 (Int.lt_of_le_of_lt (show n<=3 by omega) (by decide +kernel)) (fun _ t6 H6 s6 _ hgp=>?_) (fun hout=>absurd (show z2d (Gr.stk b n (Gr.grw noR n) pl g).1 from by rw [gz]; exact ⟨by omega,by omega⟩) hout)
 rw [gz] at hgp
 obtain ⟨t',u',a',et,hst,hu,_⟩:=z94 hgp
 cases et
 refine ⟨t6,_,_,_,rfl,rfl,hst,atI_nat (j:=0) rfl,?_⟩
 refine z09 ?_
 refine ⟨_,rfl,_,rfl,_,rfl,v,u',b,_,D,_,rfl,hv2.sb0 s6,BB.ok,hu,nx.ok,z84 _ (by omega),by omega,by omega,nx.nm,BB.Dok,fun hlt2 H7 s7=>?_,fun hge2=>absurd hge2 (by omega)⟩
 refine z09 ?_
 refine ⟨_,rfl,_,rfl,_,rfl,iteF ?_⟩
 refine ⟨_,rfl,_,_,rfl,rfl,_,rfl,?_⟩
 rw [decide_eq_false (show ¬ Gr.fw b D (Gr.stk b n .nil pl g).1 < 0 by omega)]
 refine iteF ?_
 refine ⟨_,rfl,_,rfl,_,_,rfl,rfl,_,rfl,?_⟩
 rw [decide_eq_false (show ¬ Gr.fw b D g<=Gr.fw b D (Gr.stk b n .nil pl g).1 by omega)]
 refine iteF ?_
 have s07:=(s02.trans s6).trans s7
 have fin:∀ T2,H7 T2=none->(n=D->Gr.fw b D (Gr.stk b n .nil pl g).1+1=Gr.fw b D g)->Q (.ref T2) (upd H7 T2 (.tup [u',.int (Gr.fw b D (Gr.stk b n .nil pl g).1)])):=fun T2 nT2 h=>by
  have t8:=SB.new (ps:=[]) nT2 (.tup [u',.int (Gr.fw b D (Gr.stk b n .nil pl g).1)])
  exact q T2 u' _ _ (s07.trans t8) (SqT.of upd_same) (GA.sb (GA.sb hu s7) t8) nx h
 by_cases hnD:n=D
 ·subst hnD
  have f1:=Gr.short_one (b:=b) (d:=n) hW.ok hbare d0 hcg
  refine ⟨_,rfl,_,rfl,rfl,_,rfl,?_⟩
  rw [decide_eq_true rfl]
  refine iteT ⟨_,rfl,_,rfl,_,_,rfl,rfl,rfl,_,rfl,?_⟩
  rw [decide_eq_true (show V.int (Gr.fw b n (Gr.stk b n .nil pl g).1)=V.int (Gr.fw b n g-1) by rw [show Gr.fw b n (Gr.stk b n .nil pl g).1=Gr.fw b n g-1 by omega])]
  refine iteF ⟨_,rfl,_,rfl,by show 2<=sizeLine; decide,fun T2 nT2=>fin T2 nT2 fun _=>f1⟩
 ·refine ⟨_,rfl,_,rfl,rfl,_,rfl,?_⟩
  rw [decide_eq_false (fun z=>hnD (V.int.inj z))]
  exact iteF (iteF ⟨_,rfl,_,rfl,by show 2<=sizeLine; decide,fun T2 nT2=>fin T2 nT2 fun z=>absurd z hnD⟩)
abbrev zji:List Str:=["_law_script","_law_book","_law_here","_law_bound","_law_left","_law_most","_law_turns","_law_k","_law_purse_here","_law_said","_law_told"]
theorem sc_q15:FnScope zji ["_law_script","_law_book","_law_here","_law_bound","_law_left","_law_most"] (defScope z5z):=⟨rfl,rfl,rfl,by decide +kernel,rfl,by decide +kernel,by decide +kernel⟩
theorem zha {C_Book:Addr} (B:BI mg) (G_q10:Got P w K mg base "_law_purse" ["_law_script","_law_k"] (1) (z21 K)) (G_q13:Got P w K mg base "_law_take" ["_law_purse_here","_law_many"] (1) (z0v)) (G_q9:Got P w K mg base "_law_no_better" ["_law_book","_law_here","_law_bound","_law_left","_law_purse_here"] (82) (z4q K C_Book)) (G_q11:Got P w K mg base "_law_short" ["_law_book","_law_here","_law_bound","_law_left","_law_said"] (82) (z4m K C_Book)) (F:Fun K "_law_walked" "_law_walked" z5z f fd):FnOk P w K mg base CX0 (90) f fd ["_law_script","_law_book","_law_here","_law_bound","_law_left","_law_most"] (z6e K C_Book):=by
 refine F.ok sc_q15 (fun vs H Q E h=>?_) (fun cdv A outer s H vs Q E hr h=>?_)
 ·obtain ⟨a,ns,v,u,b,g,D,mo,rfl,_⟩:=h
  rfl
 obtain ⟨a,ns,v,u,b,g,D,mo,rfl,hs,nl,hv,BB,hg,h0,hcap,q⟩:=h
 have hun2:=hunT hr
 refine ⟨_,pss_cons (ps_set (i:=6) sc_q15.nd rfl (.inl rfl) (pe_ix ix_list (pe_lst (pa_cons pe_int (pa_cons (pv 4) pa_nil))) (pe_callTy call_int1 rfl B.int boot_int (pa_cons (pe_cmpR op_le (pv 4) pe_int (nomark _)) pa_nil)) (fun _ _=>rfl)))
  (pss_cons (ps_for PassesOwn.never rfl (pi_range1 rfl B.range (pa_cons (pv 6) pa_nil)) (pg_name (i:=7) sc_q15.nd rfl (.inl rfl))
   (pss_cons (ps_if (pt_cmpR (z6w (by show A.units+3+195 < cLine; omega)) (pv 2) (pe_tup pa_nil) (nomark _)) (pss_one (ps_ret (pe_and (pe_cmpR op_eq (pv 4) pe_int (nomark _)) (pe_one (pe_not (pv 5)))))) pss_nil)
  (pss_cons (ps_set (i:=8) sc_q15.nd rfl (.inl rfl) (z00 G_q10 (hr.mono (by omega)) rfl (pa_cons (pv 0) (pa_cons (pe_op op_add pe_int (pe_op op_mod (pv 7) pe_int)) pa_nil))))
  (pss_cons (ps_set (i:=9) sc_q15.nd rfl (.inl rfl) (z00 G_q13 (hr.mono (by omega)) rfl (pa_cons (pv 8) (pa_cons (pe_op op_add (pv 3) pe_int) pa_nil))))
  (pss_cons (ps_if (pt_val (pv 5)) (pss_one (ps_set (i:=9) sc_q15.nd rfl (.inl rfl) (pv 3))) pss_nil)
  (pss_cons (ps_if (pt_not (pt_val (z00 G_q9 (hr.mono (by omega)) rfl (pa_cons (pv 1) (pa_cons (pv 2) (pa_cons (pv 3) (pa_cons (pv 4) (pa_cons (pv 8) pa_nil)))))))) (pss_one (ps_ret pe_bl)) pss_nil)
  (pss_cons (ps_set (i:=10) sc_q15.nd rfl (.inl rfl) (z00 G_q11 (hr.mono (by omega)) rfl (pa_cons (pv 1) (pa_cons (pv 2) (pa_cons (pv 3) (pa_cons (pv 4) (pa_cons (pv 9) pa_nil)))))))
  (pss_cons (ps_if (pt_cmpR op_isN (pv 10) pe_non (nomark _)) (pss_one (ps_ret pe_bl)) pss_nil)
  (pss_one (ps_asg (pv 10) (pg_tup rfl (pgs_cons (pg_name (i:=2) sc_q15.nd rfl (.inl rfl)) (pgs_cons (pg_name (i:=4) sc_q15.nd rfl (.inl rfl)) pgs_nil)))))))))))))
  (pss_one (ps_ret (pe_cmpR op_eq (pe_cmpR op_eq (pv 4) pe_int (nomark _)) (pe_cmpR (z6w (by show A.units+3+195 < cLine; omega)) (pv 2) (pe_tup pa_nil) (nomark _)) (nomark _))))),?_⟩
 have szl:=sizeLine_eq
 have d3:=BB.d3
 have d0:=BB.d0
 have c0:=Gr.fw_nn (b:=b) (d:=D) h0.ok d0
 generalize hL:Gr.fw b D g=L at h0 hcap c0
 refine ⟨_,rfl,by show 2<=sizeLine; decide,fun la hla=>?_⟩
 have t1:=SB.new (ps:=[]) hla (.lst [.int 3,.int L])
 have hla1:upd H la (.lst [.int 3,.int L]) la=some (.lst [.int 3,.int L]):=upd_same
 generalize upd H la (.lst [.int 3,.int L])=H1 at t1 hla1
 obtain ⟨N,hz,hN,N0,N40,Nl⟩:∃ N:Int,atI [V.int 3,V.int L] (if decide (L<=40)=true then 1 else 0)=some (.int N)/\N.toNat=z0y L/\0<=N/\N<=40/\(z0y L:Int)<=L:=by
  unfold z0y
  by_cases h40:L<=40
  ·rw [decide_eq_true h40,if_pos rfl,if_pos h40]
   exact ⟨L,rfl,rfl,c0,h40,by omega⟩
  ·rw [decide_eq_false h40,if_neg (by decide),if_neg h40]
   exact ⟨3,rfl,rfl,by decide,by decide,by omega⟩
 refine ⟨_,rfl,_,_,rfl,rfl,.inr ⟨_,rfl,la,_,_,_,rfl,rfl,SqL.of hla1,hz,?_⟩⟩
 refine z09 ?_
 refine ⟨_,rfl,N,rfl,by omega,by omega,?_⟩
 rw [hN]
 refine for_it (walk_range (lo:=0) (n:=z0y L)) (fun i σ H2=>SB [] H1 H2/\∃ (gv:V) (gi:Gr) (o7 o8 o9 o10:Option V),σ=[some (.ref a),some v,some gv,some (.int D),some (.int (Gr.fw b D gi)),some (.bl mo),some (.int N),o7,o8,o9,o10]/\GA K H2 gv gi/\W87 b D L i gi/\(mo=true->Gr.fw b D gi=L-i))
  ⟨SB.refl,u,g,_,_,_,_,by rw [hL]; rfl,GA.sb hg t1,h0,fun _=>by rw [hL]; omega⟩ (fun _ _ _ _ _=>trivial) (fun i x σ Hq H2 hi h2 y=>?_) (fun σ H2 h2=>?_)
 ·obtain ⟨s2,gv,gi,o7,o8,o9,o10,rfl,hgi,hW,hmo⟩:=h2
  obtain ⟨rfl,rfl⟩:=y
  have gd:=hW.dp
  obtain ⟨gp,gp2,j40⟩:=hW.pts BB hcap (Nat.le_of_lt hi)
  have cz:=Gr.fw_zero (b:=b) (d:=D) hW.ok d0
  refine ⟨_,rfl,by show 0<=sizeLine; decide,fun e0 ne0=>?_⟩
  have t3:=SB.new (ps:=[]) ne0 (.tup [])
  have he3:SqT K (upd H2 e0 (.tup [])) e0 []:=SqT.of upd_same
  generalize upd H2 e0 (.tup [])=H3 at t3 he3
  have hg3:=GA.sb hgi t3
  refine ⟨gi.enc,.tuple [],hg3,.tup he3 .nil,Gr.wd hW.ok (by omega),Gr.wd_nil,?_⟩
  rw [Gr.enc_eq_nil]
  have s03:=(t1.trans s2).trans t3
  by_cases hg0:gi=.nil
  ·rw [decide_eq_true hg0]
   refine ⟨_,rfl,iteT ?_⟩
   have z0:=cz.mpr hg0
   have mf:mo=false:=by
    cases mo with
    | false=>rfl
    | true=>have:=hmo rfl; omega
   subst mf
   refine ⟨_,rfl,rfl,?_⟩
   rw [z0,decide_eq_true rfl]
   refine ⟨_,rfl,iteT ⟨_,rfl,?_⟩⟩
   exact ⟨_,rfl,q _ s03⟩
  rw [decide_eq_false hg0]
  refine ⟨_,rfl,iteF ?_⟩
  refine ⟨_,rfl,_,rfl,_,_,rfl,rfl,(show (0:Int) < 40 by decide),_,_,rfl,rfl,a,ns,16+i % 40,?_,s03.sqL nmn hs,nl,by omega,fun p H4 s4 np hp=>?_⟩
  ·show [V.ref a,V.int (16+(0+(i:Int)) % 40)]=_
   rw [Int.zero_add]
   rfl
  refine z09 ?_
  refine ⟨_,rfl,_,rfl,_,_,rfl,rfl,p,D+1,rfl,hp,by omega,Int.lt_of_le_of_lt (show D+1<=4 by omega) (by decide),fun n0 H5 n00 n0D s5 hp5=>?_⟩
  refine z09 ?_
  dsimp only
  have s15:SB [] H1 H5:=(s2.trans t3).trans ((s4.nil.trans s5).drop np)
  have s45:SB [] H3 H5:=(s4.nil.trans s5).drop np
  refine z7e (fun σ' H9=>H5=H9/\∃ n:Int,σ'=[some (.ref a),some v,some gv,some (.int D),some (.int (Gr.fw b D gi)),some (.bl mo),some (.int N),some (.int (0+(i:Int))),some (.ref p),some (.int n),o10]/\0<=n/\n<=D/\(mo=true->n=D)) (fun nx hnx=>?_) (fun σ' H9 h=>?_)
  ·refine ⟨_,rfl,mo,rfl,?_⟩
   cases mo with
   | true=>exact iteT ⟨_,rfl,hnx _ _ ⟨rfl,D,rfl,d0,Int.le_refl _,fun _=>rfl⟩⟩
   | false=>exact iteF (hnx _ _ ⟨rfl,n0,rfl,n00,by omega,fun z=>nomatch z⟩)
  obtain ⟨rfl,n,rfl,nn0,nnD,nmo⟩:=h
  have hv5:=(hv.sb0 s03).sb0 s45
  have hg5:=GA.sb hg3 s45
  refine ⟨_,rfl,_,rfl,_,rfl,_,rfl,_,rfl,v,gv,p,b,gi,D,L,i,rfl,hv5,BB,hg5,hW,hi,hcap,hg0,hp5,fun H6 s6 hp6=>⟨_,rfl,iteF ?_⟩⟩
  have s46:SB [] H3 H6:=(s4.nil.trans (s5.trans s6)).drop np
  have hv6:=(hv.sb0 s03).sb0 s46
  have hg6:=GA.sb hg3 s46
  refine ⟨_,rfl,_,rfl,_,rfl,_,rfl,_,rfl,v,gv,b,gi,D,L,n,i,rfl,hv6,BB,hg6,hW,hi,hcap,hg0,nn0,nnD,fun tl xl gl H7 s7 hTl hxl hWl hone=>?_⟩
  refine z09 ?_
  refine ⟨_,rfl,rfl,_,rfl,?_⟩
  rw [decide_eq_false (fun z=>nomatch z)]
  refine iteF ?_
  refine ⟨_,rfl,tl,_,rfl,hTl,rfl,_,_,rfl,_,_,rfl,rfl,?_⟩
  exact ⟨(s2.trans t3).trans (s46.trans s7),xl,gl,_,_,_,_,rfl,hxl,hWl,fun hm=>by have h1:=hone (nmo hm); have h2:=hmo hm; omega⟩
 ·obtain ⟨s2,gv,gi,o7,o8,o9,o10,rfl,hgi,hW,hmo⟩:=h2
  have gd:=hW.dp
  have cz:=Gr.fw_zero (b:=b) (d:=D) hW.ok d0
  refine ⟨_,rfl,rfl,_,rfl,by show 0<=sizeLine; decide,fun e0 ne0=>?_⟩
  have t3:=SB.new (ps:=[]) ne0 (.tup [])
  refine ⟨gi.enc,.tuple [],GA.sb hgi t3,.tup (SqT.of upd_same) .nil,Gr.wd hW.ok (by omega),Gr.wd_nil,?_⟩
  rw [Gr.enc_eq_nil]
  refine ⟨rfl,?_⟩
  have ez:decide (V.int (Gr.fw b D gi)=V.int 0)=decide (gi=.nil):=by
   by_cases hg0:gi=.nil
   ·rw [decide_eq_true hg0,cz.mpr hg0]; rfl
   ·rw [decide_eq_false hg0]
    exact decide_eq_false fun z=>hg0 (cz.mp (V.int.inj z))
  rw [ez,decide_eq_true rfl]
  exact q _ ((t1.trans s2).trans t3)
abbrev zim:List Str:=["_law_script","_law_head","_law_names_here","_law_book","_law_bound","_law_many","_law_here","_law_left","_law_truth"]
theorem sc_q45:FnScope zim ["_law_script"] (defScope z5n):=⟨rfl,rfl,rfl,by decide +kernel,rfl,by decide +kernel,by decide +kernel⟩
theorem zh7 {C_Book C_NoBook:Addr} (B:BI mg) (G_q10:Got P w K mg base "_law_purse" ["_law_script","_law_k"] (1) (z21 K)) (G_q8:Got P w K mg base "_law_names" ["_law_purse_here","_law_most"] (2) (z69 K)) (G_q0:GotI P w K mg base "Book" C_Book ["self","kinds"] (88) (z59 K C_Book C_NoBook)) (G_q7:Got P w K mg base "_law_kinds" ["_law_script","_law_first","_law_names_here","_law_great","_law_rounds"] (3) (z6f K)) (G_q13:Got P w K mg base "_law_take" ["_law_purse_here","_law_many"] (1) (z0v)) (G_q6:Got P w K mg base "_law_grove" ["_law_script","_law_first","_law_many","_law_names_here","_law_great","_law_low"] (2) (z65 K)) (G_q5:Got P w K mg base "_law_fewest" ["_law_book","_law_here","_law_bound"] (80) (z4i K C_Book)) (G_q16:Got P w K mg base "_law_whole" ["_law_found"] (1) (z3l)) (G_q15:Got P w K mg base "_law_walked" ["_law_script","_law_book","_law_here","_law_bound","_law_left","_law_most"] (90) (z6e K C_Book)) (F:Fun K "law" "law" z5n f fd):FnOk P w K mg base CX0 (120) f fd ["_law_script"] (spLaw K):=by
 refine F.ok sc_q45 (fun vs H Q E h=>?_) (fun cdv A outer s H vs Q E hr h=>?_)
 ·obtain ⟨a,ns,rfl,_⟩:=h
  rfl
 obtain ⟨a,ns,rfl,hs,nl,q⟩:=h
 have hun2:=hunT hr
 refine ⟨_,pss_cons (ps_set (i:=1) sc_q45.nd rfl (.inl rfl) (z00 G_q10 (hr.mono (by omega)) rfl (pa_cons (pv 0) (pa_cons pe_int pa_nil))))
  (pss_cons (ps_set (i:=2) sc_q45.nd rfl (.inl rfl) (z00 G_q8 (hr.mono (by omega)) rfl (pa_cons (z00 G_q10 (hr.mono (by omega)) rfl (pa_cons (pv 0) (pa_cons pe_int pa_nil))) (pa_cons pe_int pa_nil))))
  (pss_cons (ps_set (i:=3) sc_q45.nd rfl (.inl rfl) (zff G_q0 (hr.mono (by omega)) rfl (pa_cons (z00 G_q7 (hr.mono (by omega)) rfl (pa_cons (pv 0) (pa_cons pe_int (pa_cons (pv 2) (pa_cons pe_int (pa_cons (pe_cmpR op_eq (z00 G_q13 (hr.mono (by omega)) rfl (pa_cons (pv 1) (pa_cons pe_int pa_nil))) pe_int (nomark _)) pa_nil)))))) pa_nil)))
  (pss_cons (ps_set (i:=4) sc_q45.nd rfl (.inl rfl) (z00 G_q13 (hr.mono (by omega)) rfl (pa_cons (pv 1) (pa_cons pe_int pa_nil))))
  (pss_cons (ps_set (i:=5) sc_q45.nd rfl (.inl rfl) (z00 G_q13 (hr.mono (by omega)) rfl (pa_cons (pv 1) (pa_cons pe_int pa_nil))))
  (pss_cons (ps_set (i:=6) sc_q45.nd rfl (.inl rfl) (z00 G_q6 (hr.mono (by omega)) rfl (pa_cons (pv 0) (pa_cons pe_int (pa_cons (pv 5) (pa_cons (pv 2) (pa_cons pe_int (pa_cons pe_int pa_nil))))))))
  (pss_cons (ps_set (i:=7) sc_q45.nd rfl (.inl rfl) (z00 G_q5 (hr.mono (by omega)) rfl (pa_cons (pv 3) (pa_cons (pv 6) (pa_cons (pv 4) pa_nil)))))
  (pss_cons (ps_if (pt_cmpR op_isN (pv 7) pe_non (nomark _)) (pss_one (ps_ret (pe_cmpR (zbw (by show A.units+3+195 < cLine; omega)) (pv 6) (pe_tup pa_nil) (nomark _)))) pss_nil)
  (pss_cons (ps_if (PW.pt (pw_or (pt_not (pt_val (z00 G_q16 (hr.mono (by omega)) rfl (pa_cons (pv 7) pa_nil)))) (pw_or1 (pt_cmpR op_ne (pe_cmpR op_eq (pv 7) pe_int (nomark _)) (pe_cmpR (z6w (by show A.units+3+195 < cLine; omega)) (pv 6) (pe_tup pa_nil) (nomark _)) (nomark _))))) (pss_one (ps_ret pe_bl)) pss_nil)
  (pss_cons (ps_for PassesOwn.never rfl (pi_list (pe_lst (pa_cons pe_bl (pa_cons pe_bl pa_nil)))) (pg_name (i:=8) sc_q45.nd rfl (.inl rfl))
   (pss_one (ps_if (pt_not (pt_val (z00 G_q15 (hr.mono (by omega)) rfl (pa_cons (pv 0) (pa_cons (pv 3) (pa_cons (pv 6) (pa_cons (pv 4) (pa_cons (pv 7) (pa_cons (pv 8) pa_nil))))))))) (pss_one (ps_ret pe_bl)) pss_nil)))
  (pss_one (ps_ret pe_bl))))))))))),?_⟩
 have szl:=sizeLine_eq
 have h19:(10:Int) ^ 19<=2 ^ 1000:=by decide +kernel
 refine ⟨_,rfl,a,ns,0,rfl,hs,nl,by omega,fun p1 H1 s1 np1 hp1=>?_⟩
 refine z09 ?_
 refine ⟨_,rfl,a,ns,1,rfl,s1.sqL nmn hs,nl,by omega,fun p2 H2 s2 np2 hp2=>?_⟩
 refine ⟨p2,5,rfl,hp2,by decide,by decide,fun nl2 ks H3 s3 hp2' nnl hnl k1 k5 kok knd=>?_⟩
 refine z09 ?_
 have pnl:p1 ≠ nl2:=(hp1.sb s2).ne nnl
 have s13:SB [] H1 H3:=((s2.nil (ps:=[p2])).trans s3).drop np2
 have hp3:=hp1.sb s13
 have s03:=s1.trans s13
 refine ⟨_,rfl,_,rfl,_,rfl,p1,2,rfl,hp3,by decide,by decide,fun rr Hr rr0 rr2 sr hpr=>⟨rfl,?_⟩⟩
 generalize decide (V.int rr=V.int 1)=rd
 have s0r:SB [] H Hr:=((s1.nil (ps:=[p1])).trans (s13.nil.trans sr)).drop np1
 have hnlr:=sr.keep _ _ hnl (by simpa using fun z:nl2=p1=>pnl z.symm)
 refine nilI ?_
 refine ⟨a,2,nl2,ns,ks,3,3,rd,rfl,⟨s0r.sqL nmn hs,nl,by decide⟩,⟨hnlr,k1,by omega,knd,kok⟩,by decide,by decide,by decide,by decide,fun L xs b H4 s4 nL hL hkd ok hbn hrs hlat=>?_⟩
 refine zba (C:=C_Book) (B:=C_NoBook) (Q:=fun v H'=>gName 3 v _ H' _) hL hkd ok (fun bk H5 s5 nbk hbk=>?_)
 have s35:=s4.trans s5
 have hp5:=hpr.sb s35
 have hn5:=s35.keep _ _ hnlr nmn
 have s05:=s0r.trans s35
 clear hp3 hp2' hp2 hp1 hkd hL
 refine ⟨_,rfl,p1,4,rfl,hp5,by decide,by decide,fun D H8 D0 Dz s8 hp8=>?_⟩
 refine z09 ?_
 refine ⟨_,rfl,p1,8,rfl,hp8,by decide,by decide,fun r9 H9 r90 r98 s9 hp9=>?_⟩
 obtain ⟨m,rfl⟩:∃ u:Nat,r9=(u:Int):=⟨r9.toNat,by omega⟩
 refine z09 ?_
 have s59:SB [p1] H5 H9:=s8.trans s9
 have s09:SB [] H H9:=((s1.nil (ps:=[p1])).trans (s13.nil.trans (sr.trans (s35.nil.trans s59)))).drop np1
 have hn9:=s59.keep _ _ hn5 (by simpa using fun z:nl2=p1=>pnl z.symm)
 have hbk9:BkA K C_Book H9 (.ref bk) b:=hbk.sb s59 fun q hq=>by
  rw [List.mem_singleton.mp hq]
  obtain ⟨_,_,e,_⟩:=hp5
  exact .inr ⟨_,e⟩
 clear hp8 hp5 hbk
 have BB:B87 b D:=⟨ok,D0,by omega⟩
 refine ⟨_,rfl,_,rfl,_,rfl,a,nl2,ns,ks,7,m,4,3,rfl,s09.sqL nmn hs,nl,hn9,k1,by omega,kok,by decide,by omega,by decide,by decide,by decide,by decide,fun gv g Hb sb hg go gp gd gn=>?_⟩
 refine z09 ?_
 have hbkb:=hbk9.sb0 sb
 have hpb1:=hp9.sb sb
 have gnm:Gr.Named b.names g:=by rw [hbn]; exact gn
 have hW:W87 b D (Gr.fw b D g) 0 g:=⟨go.mono (by decide +kernel),by omega,gnm,by omega,fun _=>by show g.parts<=7; omega⟩
 have big:=z84 0 (by decide)
 clear hbk9
 refine ⟨_,rfl,_,rfl,_,rfl,.ref bk,gv,b,g,D,_,rfl,hbkb,ok,hg,hW.ok,big,by omega,by omega,gnm,BB.Dok,fun hlt Hc sc=>?_,fun hge Hc sc=>?_⟩
 case refine_2 =>
  refine z09 ?_
  refine ⟨_,rfl,rfl,_,rfl,?_⟩
  rw [decide_eq_true rfl]
  refine iteT ?_
  refine ⟨_,rfl,by show 0<=sizeLine; decide,fun e0 ne0=>?_⟩
  have t1:=SB.new (ps:=[]) ne0 (.tup [])
  refine ⟨g.enc,.tuple [],GA.sb (GA.sb hg sc) t1,.tup (SqT.of upd_same) .nil,Gr.wd go (by omega),Gr.wd_nil,?_⟩
  have gnil:¬ g=.nil:=fun z=>by
   have:=(Gr.fw_zero (b:=b) go D0).mpr z
   have:=z1w
   omega
  rw [Gr.enc_eq_nil,decide_eq_false gnil]
  exact q _
 refine z09 ?_
 refine ⟨_,rfl,rfl,_,rfl,?_⟩
 rw [decide_eq_false (fun z=>nomatch z)]
 refine iteF ?_
 refine ⟨_,rfl,_,rfl,_,rfl,iteF ?_⟩
 refine ⟨_,rfl,rfl,_,rfl,by show 0<=sizeLine; decide,fun e0 ne0=>?_⟩
 have t1:=SB.new (ps:=[]) ne0 (.tup [])
 have he1:SqT K (upd Hc e0 (.tup [])) e0 []:=SqT.of upd_same
 generalize upd Hc e0 (.tup [])=Hd at t1 he1
 have sbd:=sc.trans t1
 have hgd:=GA.sb hg sbd
 refine ⟨g.enc,.tuple [],hgd,.tup he1 .nil,Gr.wd go (by omega),Gr.wd_nil,?_⟩
 rw [Gr.enc_eq_nil]
 refine ⟨rfl,_,rfl,?_⟩
 have ez:decide (V.int (Gr.fw b D g)=V.int 0)=decide (g=.nil):=by
  have h0:=Gr.fw_zero (b:=b) go D0
  by_cases hg0:g=.nil
  ·rw [decide_eq_true hg0,h0.mpr hg0]; rfl
  ·rw [decide_eq_false hg0]
   exact decide_eq_false fun z=>hg0 (h0.mp (V.int.inj z))
 rw [ez,decide_eq_true rfl]
 refine iteF ?_
 have hbkd:=hbkb.sb0 sbd
 have s0d:SB [] H Hd:=((s1.nil (ps:=[p1])).trans (s13.nil.trans (sr.trans (s35.nil.trans (s59.trans (sb.trans sbd).nil))))).drop np1
 refine ⟨by show 2<=sizeLine; decide,fun lb nlb=>?_⟩
 have t2:=SB.new (ps:=[]) nlb (.lst [.bl false,.bl true])
 have hlb:upd Hd lb (.lst [.bl false,.bl true]) lb=some (.lst [.bl false,.bl true]):=upd_same
 generalize upd Hd lb (.lst [.bl false,.bl true])=Hg at t2 hlb
 have hbkg:=hbkd.sb0 t2
 have hgg:=GA.sb hgd t2
 have s0g:=s0d.trans t2
 refine ⟨lb,rfl,⟨_,SqL.of hlb⟩,?_⟩
 refine for_it (walk_list (xs:=[V.bl false,V.bl true])) (fun i σ H2=>SB [] Hg H2/\∃ (o8:Option V),σ=[some (.ref a),some (.ref p1),some (.ref nl2),some (.ref bk),some (.int D),some (.int (m:Int)),some gv,some (.int (Gr.fw b D g)),o8]) ⟨SB.refl,_,rfl⟩ (fun i σ H2 hi h2=>h2.1.sqL nmn (SqL.of hlb)) (fun i x σ Hq H2 hi h2 y=>?_) (fun σ H2 h2=>?_)
 ·obtain ⟨s2',o8,rfl⟩:=h2
  obtain ⟨rfl,ey⟩:=y
  obtain ⟨ti,rfl⟩:∃ ti:Bool,x=.bl ti:=by
   have hx:=List.mem_of_getElem? ey
   rcases List.mem_cons.mp hx with h | h
   ·exact ⟨_,h⟩
   ·exact ⟨_,List.mem_singleton.mp h⟩
  refine zfo ?_
  refine ⟨_,rfl,_,rfl,_,rfl,_,rfl,_,rfl,_,rfl,a,ns,.ref bk,gv,b,g,D,ti,rfl,(s0g.trans s2').sqL nmn hs,nl,hbkg.sb0 s2',BB,GA.sb hgg s2',hW,hlt,fun H7 s7=>⟨_,rfl,iteF ⟨s2'.trans s7,_,rfl⟩⟩⟩
 ·exact q _
end
theorem facts {P:Program} {w:World} {K:PySem.W.Frag} {h:Heap} {mg:Str->Option Value} {f:Addr} (X:K.In h) (G:h.Ns mainGlobals mg) (hfa:mg ("law":Str)=some (.ref f)) (c:He.SaysD fa fn K) (cx:exOk K=true) :
  ∃ fd:FuncData,(∀ (s:Shared) (v:Value),BindsTo s fd ⟨[v],[]⟩ [("_law_script",v)])/\∀ base:Heap,K.In base->base.Ns mainGlobals mg->FnOk P w K mg base CX0 120 f fd ["_law_script"] (spLaw K):=by
 obtain ⟨fd_q42,D_q42⟩:=c.def_ 0 (d:=zdv) rfl
 have F_q42:Fun K "is_whole" "is_whole" z5w _ fd_q42:=He5.fun_of D_q42
 have m_q42:=He.glo_ok X G (c.fact 0 (f:=.glo "is_whole") rfl)
 have b_q42:=F_q42.binds (ps:=["thing"]) fun _ _ _ _ _ _ us hl=>match us,hl with | [_],_=>rfl
 obtain ⟨fd_q36,D_q36⟩:=c.def_ 1 (d:=ze2) rfl
 have F_q36:Fun K "is_many" "is_many" z5q _ fd_q36:=He5.fun_of D_q36
 have m_q36:=He.glo_ok X G (c.fact 1 (f:=.glo "is_many") rfl)
 have b_q36:=F_q36.binds (ps:=["thing"]) fun _ _ _ _ _ _ us hl=>match us,hl with | [_],_=>rfl
 obtain ⟨fd_q37,D_q37⟩:=c.def_ 2 (d:=zdi) rfl
 have F_q37:Fun K "is_name" "is_name" z50 _ fd_q37:=He5.fun_of D_q37
 have m_q37:=He.glo_ok X G (c.fact 2 (f:=.glo "is_name") rfl)
 have b_q37:=F_q37.binds (ps:=["thing"]) fun _ _ _ _ _ _ us hl=>match us,hl with | [_],_=>rfl
 obtain ⟨fd_q38,D_q38⟩:=c.def_ 3 (d:=zdg) rfl
 have F_q38:Fun K "is_rising" "is_rising" z2q _ fd_q38:=He5.fun_of D_q38
 have m_q38:=He.glo_ok X G (c.fact 3 (f:=.glo "is_rising") rfl)
 have b_q38:=F_q38.binds (ps:=["things"]) fun _ _ _ _ _ _ us hl=>match us,hl with | [_],_=>rfl
 obtain ⟨fd_q43,D_q43⟩:=c.def_ 4 (d:=zeu) rfl
 have F_q43:Fun K "joined" "joined" z4v _ fd_q43:=He5.fun_of D_q43
 have m_q43:=He.glo_ok X G (c.fact 4 (f:=.glo "joined") rfl)
 have b_q43:=F_q43.binds (ps:=["pairs"]) fun _ _ _ _ _ _ us hl=>match us,hl with | [_],_=>rfl
 obtain ⟨fd_q51,D_q51⟩:=c.def_ 5 (d:=zer) rfl
 have F_q51:Fun K "run_of" "run_of" z5e _ fd_q51:=He5.fun_of D_q51
 have m_q51:=He.glo_ok X G (c.fact 5 (f:=.glo "run_of") rfl)
 have b_q51:=F_q51.binds (ps:=["text","at","signs"]) fun _ _ _ _ _ _ us hl=>match us,hl with | [_,_,_],_=>rfl
 obtain ⟨fd_q41,D_q41⟩:=c.def_ 6 (d:=zf2) rfl
 have F_q41:Fun K "is_tree" "is_tree" z5a _ fd_q41:=He5.fun_of D_q41
 have m_q41:=He.glo_ok X G (c.fact 6 (f:=.glo "is_tree") rfl)
 have b_q41:=F_q41.binds (ps:=["thing"]) fun _ _ _ _ _ _ us hl=>match us,hl with | [_],_=>rfl
 obtain ⟨fd_q34,D_q34⟩:=c.def_ 7 (d:=zek) rfl
 have F_q34:Fun K "is_grove" "is_grove" z45 _ fd_q34:=He5.fun_of D_q34
 have m_q34:=He.glo_ok X G (c.fact 7 (f:=.glo "is_grove") rfl)
 have b_q34:=F_q34.binds (ps:=["thing"]) fun _ _ _ _ _ _ us hl=>match us,hl with | [_],_=>rfl
 obtain ⟨fd_q17,D_q17⟩:=c.def_ 8 (d:=zef) rfl
 have F_q17:Fun K "are_grove_pairs" "are_grove_pairs" z3q _ fd_q17:=He5.fun_of D_q17
 have m_q17:=He.glo_ok X G (c.fact 8 (f:=.glo "are_grove_pairs") rfl)
 have b_q17:=F_q17.binds (ps:=["things"]) fun _ _ _ _ _ _ us hl=>match us,hl with | [_],_=>rfl
 obtain ⟨fd_q56,D_q56⟩:=c.def_ 9 (d:=zf1) rfl
 have F_q56:Fun K "together" "together" z5l _ fd_q56:=He5.fun_of D_q56
 have m_q56:=He.glo_ok X G (c.fact 9 (f:=.glo "together") rfl)
 have b_q56:=F_q56.binds (ps:=["one","other"]) fun _ _ _ _ _ _ us hl=>match us,hl with | [_,_],_=>rfl
 obtain ⟨fd_q58,D_q58⟩:=c.def_ 10 (d:=ze0) rfl
 have F_q58:Fun K "without" "without" z56 _ fd_q58:=He5.fun_of D_q58
 have m_q58:=He.glo_ok X G (c.fact 10 (f:=.glo "without") rfl)
 have b_q58:=F_q58.binds (ps:=["grove","tree","many"]) fun _ _ _ _ _ _ us hl=>match us,hl with | [_,_,_],_=>rfl
 obtain ⟨fd_q55,D_q55⟩:=c.def_ 11 (d:=zf4) rfl
 have F_q55:Fun K "times" "times" z3n _ fd_q55:=He5.fun_of D_q55
 have m_q55:=He.glo_ok X G (c.fact 11 (f:=.glo "times") rfl)
 have b_q55:=F_q55.binds (ps:=["grove","many"]) fun _ _ _ _ _ _ us hl=>match us,hl with | [_,_],_=>rfl
 obtain ⟨fd_q47,D_q47⟩:=c.def_ 12 (d:=zel) rfl
 have F_q47:Fun K "pairs_within" "pairs_within" z5b _ fd_q47:=He5.fun_of D_q47
 have m_q47:=He.glo_ok X G (c.fact 12 (f:=.glo "pairs_within") rfl)
 have b_q47:=F_q47.binds (ps:=["grove"]) fun _ _ _ _ _ _ us hl=>match us,hl with | [_],_=>rfl
 obtain ⟨fd_q44,D_q44⟩:=c.def_ 13 (d:=zev) rfl
 have F_q44:Fun K "kinds_within" "kinds_within" z3d _ fd_q44:=He5.fun_of D_q44
 have m_q44:=He.glo_ok X G (c.fact 13 (f:=.glo "kinds_within") rfl)
 have b_q44:=F_q44.binds (ps:=["grove"]) fun _ _ _ _ _ _ us hl=>match us,hl with | [_],_=>rfl
 obtain ⟨fd_q48,D_q48⟩:=c.def_ 14 (d:=zem) rfl
 have F_q48:Fun K "parts_of" "parts_of" z5o _ fd_q48:=He5.fun_of D_q48
 have m_q48:=He.glo_ok X G (c.fact 14 (f:=.glo "parts_of") rfl)
 have b_q48:=F_q48.binds (ps:=["grove"]) fun _ _ _ _ _ _ us hl=>match us,hl with | [_],_=>rfl
 obtain ⟨fd_q29,D_q29⟩:=c.def_ 15 (d:=zdm) rfl
 have F_q29:Fun K "deep_of" "deep_of" z3o _ fd_q29:=He5.fun_of D_q29
 have m_q29:=He.glo_ok X G (c.fact 15 (f:=.glo "deep_of") rfl)
 have b_q29:=F_q29.binds (ps:=["grove"]) fun _ _ _ _ _ _ us hl=>match us,hl with | [_],_=>rfl
 obtain ⟨fd_q50,D_q50⟩:=c.def_ 16 (d:=zea) rfl
 have F_q50:Fun K "rules_from_nought" "rules_from_nought" z5t _ fd_q50:=He5.fun_of D_q50
 have m_q50:=He.glo_ok X G (c.fact 16 (f:=.glo "rules_from_nought") rfl)
 have b_q50:=F_q50.binds (ps:=["book","name"]) fun _ _ _ _ _ _ us hl=>match us,hl with | [_,_],_=>rfl
 obtain ⟨fd_q22,D_q22⟩:=c.def_ 17 (d:=zes) rfl
 have F_q22:Fun K "check_kind" "check_kind" z54 _ fd_q22:=He5.fun_of D_q22
 have m_q22:=He.glo_ok X G (c.fact 17 (f:=.glo "check_kind") rfl)
 have b_q22:=F_q22.binds (ps:=["book","name"]) fun _ _ _ _ _ _ us hl=>match us,hl with | [_,_],_=>rfl
 obtain ⟨fd_q23,D_q23⟩:=c.def_ 18 (d:=zeb) rfl
 have F_q23:Fun K "check_kinds" "check_kinds" z5u _ fd_q23:=He5.fun_of D_q23
 have m_q23:=He.glo_ok X G (c.fact 18 (f:=.glo "check_kinds") rfl)
 have b_q23:=F_q23.binds (ps:=["book","grove"]) fun _ _ _ _ _ _ us hl=>match us,hl with | [_,_],_=>rfl
 obtain ⟨fd_q18,D_q18⟩:=c.def_ 19 (d:=zeh) rfl
 have F_q18:Fun K "are_kinds" "are_kinds" z2s _ fd_q18:=He5.fun_of D_q18
 have m_q18:=He.glo_ok X G (c.fact 19 (f:=.glo "are_kinds") rfl)
 have b_q18:=F_q18.binds (ps:=["things"]) fun _ _ _ _ _ _ us hl=>match us,hl with | [_],_=>rfl
 obtain ⟨fd_q35,D_q35⟩:=c.def_ 20 (d:=zeo) rfl
 have F_q35:Fun K "is_kind" "is_kind" z3m _ fd_q35:=He5.fun_of D_q35
 have m_q35:=He.glo_ok X G (c.fact 20 (f:=.glo "is_kind") rfl)
 have b_q35:=F_q35.binds (ps:=["thing"]) fun _ _ _ _ _ _ us hl=>match us,hl with | [_],_=>rfl
 obtain ⟨fd_q39,D_q39⟩:=c.def_ 21 (d:=zdt) rfl
 have F_q39:Fun K "is_rule" "is_rule" z3s _ fd_q39:=He5.fun_of D_q39
 have m_q39:=He.glo_ok X G (c.fact 21 (f:=.glo "is_rule") rfl)
 have b_q39:=F_q39.binds (ps:=["thing"]) fun _ _ _ _ _ _ us hl=>match us,hl with | [_],_=>rfl
 obtain ⟨fd_q40,D_q40⟩:=c.def_ 22 (d:=zen) rfl
 have F_q40:Fun K "is_rule_of" "is_rule_of" z47 _ fd_q40:=He5.fun_of D_q40
 have m_q40:=He.glo_ok X G (c.fact 22 (f:=.glo "is_rule_of") rfl)
 have b_q40:=F_q40.binds (ps:=["rule","names"]) fun _ _ _ _ _ _ us hl=>match us,hl with | [_,_],_=>rfl
 obtain ⟨fd_q20,D_q20⟩:=c.def_ 23 (d:=zdr) rfl
 have F_q20:Fun K "capped" "capped" z52 _ fd_q20:=He5.fun_of D_q20
 have m_q20:=He.glo_ok X G (c.fact 23 (f:=.glo "capped") rfl)
 have b_q20:=F_q20.binds (ps:=["many"]) fun _ _ _ _ _ _ us hl=>match us,hl with | [_],_=>rfl
 obtain ⟨fd_q24,D_q24⟩:=c.def_ 24 (d:=zdh) rfl
 have F_q24:Fun K "check_long" "check_long" z4z _ fd_q24:=He5.fun_of D_q24
 have m_q24:=He.glo_ok X G (c.fact 24 (f:=.glo "check_long") rfl)
 have b_q24:=F_q24.binds (ps:=["many"]) fun _ _ _ _ _ _ us hl=>match us,hl with | [_],_=>rfl
 obtain ⟨fd_q27,D_q27⟩:=c.def_ 25 (d:=zdl) rfl
 have F_q27:Fun K "count_in" "count_in" z3r _ fd_q27:=He5.fun_of D_q27
 have m_q27:=He.glo_ok X G (c.fact 25 (f:=.glo "count_in") rfl)
 have b_q27:=F_q27.binds (ps:=["book","counts","grove","bound"]) fun _ _ _ _ _ _ us hl=>match us,hl with | [_,_,_,_],_=>rfl
 obtain ⟨fd_q28,D_q28⟩:=c.def_ 26 (d:=ze3) rfl
 have F_q28:Fun K "count_of" "count_of" z5m _ fd_q28:=He5.fun_of D_q28
 have m_q28:=He.glo_ok X G (c.fact 26 (f:=.glo "count_of") rfl)
 have b_q28:=F_q28.binds (ps:=["book","counts","tree","bound"]) fun _ _ _ _ _ _ us hl=>match us,hl with | [_,_,_,_],_=>rfl
 obtain ⟨fd_q53,D_q53⟩:=c.def_ 27 (d:=zep) rfl
 have F_q53:Fun K "spread_count" "spread_count" z5x _ fd_q53:=He5.fun_of D_q53
 have m_q53:=He.glo_ok X G (c.fact 27 (f:=.glo "spread_count") rfl)
 have b_q53:=F_q53.binds (ps:=["own","inner","bound"]) fun _ _ _ _ _ _ us hl=>match us,hl with | [_,_,_],_=>rfl
 obtain ⟨fd_q57,D_q57⟩:=c.def_ 28 (d:=zds) rfl
 have F_q57:Fun K "tree_at" "tree_at" z5c _ fd_q57:=He5.fun_of D_q57
 have m_q57:=He.glo_ok X G (c.fact 28 (f:=.glo "tree_at") rfl)
 have b_q57:=F_q57.binds (ps:=["grove","place"]) fun _ _ _ _ _ _ us hl=>match us,hl with | [_,_],_=>rfl
 obtain ⟨fd_q46,D_q46⟩:=c.def_ 29 (d:=zed) rfl
 have F_q46:Fun K "number_of" "number_of" z3k _ fd_q46:=He5.fun_of D_q46
 have m_q46:=He.glo_ok X G (c.fact 29 (f:=.glo "number_of") rfl)
 have b_q46:=F_q46.binds (ps:=["grove","tree"]) fun _ _ _ _ _ _ us hl=>match us,hl with | [_,_],_=>rfl
 obtain ⟨fd_q19,D_q19⟩:=c.def_ 30 (d:=zdw) rfl
 have F_q19:Fun K "bare_places" "bare_places" z46 _ fd_q19:=He5.fun_of D_q19
 have m_q19:=He.glo_ok X G (c.fact 30 (f:=.glo "bare_places") rfl)
 have b_q19:=F_q19.binds (ps:=["grove"]) fun _ _ _ _ _ _ us hl=>match us,hl with | [_],_=>rfl
 obtain ⟨fd_q31,D_q31⟩:=c.def_ 31 (d:=ze6) rfl
 have F_q31:Fun K "fewest_falls" "fewest_falls" z3y _ fd_q31:=He5.fun_of D_q31
 have m_q31:=He.glo_ok X G (c.fact 31 (f:=.glo "fewest_falls") rfl)
 have b_q31:=F_q31.binds (ps:=["book","grove","bound"]) fun _ _ _ _ _ _ us hl=>match us,hl with | [_,_,_],_=>rfl
 obtain ⟨fd_q52,D_q52⟩:=c.def_ 32 (d:=ze8) rfl
 have F_q52:Fun K "short_fall" "short_fall" z5k _ fd_q52:=He5.fun_of D_q52
 have m_q52:=He.glo_ok X G (c.fact 32 (f:=.glo "short_fall") rfl)
 have b_q52:=F_q52.binds (ps:=["book","grove","bound"]) fun _ _ _ _ _ _ us hl=>match us,hl with | [_,_,_],_=>rfl
 obtain ⟨fd_q30,D_q30⟩:=c.def_ 33 (d:=zdy) rfl
 have F_q30:Fun K "fallen" "fallen" z5i _ fd_q30:=He5.fun_of D_q30
 have m_q30:=He.glo_ok X G (c.fact 33 (f:=.glo "fallen") rfl)
 have b_q30:=F_q30.binds (ps:=["book","grove","place","rule","number"]) fun _ _ _ _ _ _ us hl=>match us,hl with | [_,_,_,_,_],_=>rfl
 obtain ⟨fd_q49,D_q49⟩:=c.def_ 34 (d:=zdk) rfl
 have F_q49:Fun K "rule_at" "rule_at" z58 _ fd_q49:=He5.fun_of D_q49
 have m_q49:=He.glo_ok X G (c.fact 34 (f:=.glo "rule_at") rfl)
 have b_q49:=F_q49.binds (ps:=["book","kind","rule"]) fun _ _ _ _ _ _ us hl=>match us,hl with | [_,_,_],_=>rfl
 obtain ⟨fd_q25,D_q25⟩:=c.def_ 35 (d:=zdu) rfl
 have F_q25:Fun K "check_number" "check_number" z5g _ fd_q25:=He5.fun_of D_q25
 have m_q25:=He.glo_ok X G (c.fact 35 (f:=.glo "check_number") rfl)
 have b_q25:=F_q25.binds (ps:=["thing"]) fun _ _ _ _ _ _ us hl=>match us,hl with | [_],_=>rfl
 obtain ⟨fd_q21,D_q21⟩:=c.def_ 36 (d:=zdd) rfl
 have F_q21:Fun K "check_bound" "check_bound" z5r _ fd_q21:=He5.fun_of D_q21
 have m_q21:=He.glo_ok X G (c.fact 36 (f:=.glo "check_bound") rfl)
 have b_q21:=F_q21.binds (ps:=["grove"]) fun _ _ _ _ _ _ us hl=>match us,hl with | [_],_=>rfl
 obtain ⟨fd_q33,D_q33⟩:=c.def_ 37 (d:=zf3) rfl
 have F_q33:Fun K "grown" "grown" z51 _ fd_q33:=He5.fun_of D_q33
 have m_q33:=He.glo_ok X G (c.fact 37 (f:=.glo "grown") rfl)
 have b_q33:=F_q33.binds (ps:=["rule","number"]) fun _ _ _ _ _ _ us hl=>match us,hl with | [_,_],_=>rfl
 obtain ⟨fd_q32,D_q32⟩:=c.def_ 38 (d:=zde) rfl
 have F_q32:Fun K "further_ones" "further_ones" z53 _ fd_q32:=He5.fun_of D_q32
 have m_q32:=He.glo_ok X G (c.fact 38 (f:=.glo "further_ones") rfl)
 have b_q32:=F_q32.binds (ps:=["book","kind","number"]) fun _ _ _ _ _ _ us hl=>match us,hl with | [_,_,_],_=>rfl
 obtain ⟨fd_q54,D_q54⟩:=c.def_ 39 (d:=zej) rfl
 have F_q54:Fun K "struck" "struck" z4x _ fd_q54:=He5.fun_of D_q54
 have m_q54:=He.glo_ok X G (c.fact 39 (f:=.glo "struck") rfl)
 have b_q54:=F_q54.binds (ps:=["book","grove","place","fresh","number"]) fun _ _ _ _ _ _ us hl=>match us,hl with | [_,_,_,_,_],_=>rfl
 obtain ⟨fd_q26,D_q26⟩:=c.def_ 40 (d:=zex) rfl
 have F_q26:Fun K "choices" "choices" z3j _ fd_q26:=He5.fun_of D_q26
 have m_q26:=He.glo_ok X G (c.fact 40 (f:=.glo "choices") rfl)
 have b_q26:=F_q26.binds (ps:=["book","grove"]) fun _ _ _ _ _ _ us hl=>match us,hl with | [_,_],_=>rfl
 obtain ⟨fd_q10,D_q10⟩:=c.def_ 41 (d:=zf5) rfl
 have F_q10:Fun K "_law_purse" "_law_purse" z57 _ fd_q10:=He5.fun_of D_q10
 have m_q10:=He.glo_ok X G (c.fact 41 (f:=.glo "_law_purse") rfl)
 have b_q10:=F_q10.binds (ps:=["_law_script","_law_k"]) fun _ _ _ _ _ _ us hl=>match us,hl with | [_,_],_=>rfl
 obtain ⟨fd_q13,D_q13⟩:=c.def_ 42 (d:=ze7) rfl
 have F_q13:Fun K "_law_take" "_law_take" z55 _ fd_q13:=He5.fun_of D_q13
 have m_q13:=He.glo_ok X G (c.fact 42 (f:=.glo "_law_take") rfl)
 have b_q13:=F_q13.binds (ps:=["_law_purse_here","_law_many"]) fun _ _ _ _ _ _ us hl=>match us,hl with | [_,_],_=>rfl
 obtain ⟨fd_q8,D_q8⟩:=c.def_ 43 (d:=d_q8) rfl
 have F_q8:Fun K "_law_names" "_law_names" s_q8 _ fd_q8:=He5.fun_of D_q8
 have m_q8:=He.glo_ok X G (c.fact 43 (f:=.glo "_law_names") rfl)
 have b_q8:=F_q8.binds (ps:=["_law_purse_here","_law_most"]) fun _ _ _ _ _ _ us hl=>match us,hl with | [_,_],_=>rfl
 obtain ⟨fd_q14,D_q14⟩:=c.def_ 44 (d:=zet) rfl
 have F_q14:Fun K "_law_tidy" "_law_tidy" z5p _ fd_q14:=He5.fun_of D_q14
 have m_q14:=He.glo_ok X G (c.fact 44 (f:=.glo "_law_tidy") rfl)
 have b_q14:=F_q14.binds (ps:=["_law_pairs"]) fun _ _ _ _ _ _ us hl=>match us,hl with | [_],_=>rfl
 obtain ⟨fd_q12,D_q12⟩:=c.def_ 45 (d:=zee) rfl
 have F_q12:Fun K "_law_side" "_law_side" z3h _ fd_q12:=He5.fun_of D_q12
 have m_q12:=He.glo_ok X G (c.fact 45 (f:=.glo "_law_side") rfl)
 have b_q12:=F_q12.binds (ps:=["_law_purse_here","_law_names_here","_law_many","_law_great","_law_low"]) fun _ _ _ _ _ _ us hl=>match us,hl with | [_,_,_,_,_],_=>rfl
 obtain ⟨fd_q7,D_q7⟩:=c.def_ 46 (d:=d_q7) rfl
 have F_q7:Fun K "_law_kinds" "_law_kinds" s_q7 _ fd_q7:=He5.fun_of D_q7
 have m_q7:=He.glo_ok X G (c.fact 46 (f:=.glo "_law_kinds") rfl)
 have b_q7:=F_q7.binds (ps:=["_law_script","_law_first","_law_names_here","_law_great","_law_rounds"]) fun _ _ _ _ _ _ us hl=>match us,hl with | [_,_,_,_,_],_=>rfl
 obtain ⟨fd_q6,D_q6⟩:=c.def_ 47 (d:=d_q6) rfl
 have F_q6:Fun K "_law_grove" "_law_grove" s_q6 _ fd_q6:=He5.fun_of D_q6
 have m_q6:=He.glo_ok X G (c.fact 47 (f:=.glo "_law_grove") rfl)
 have b_q6:=F_q6.binds (ps:=["_law_script","_law_first","_law_many","_law_names_here","_law_great","_law_low"]) fun _ _ _ _ _ _ us hl=>match us,hl with | [_,_,_,_,_,_],_=>rfl
 obtain ⟨fd_q16,D_q16⟩:=c.def_ 48 (d:=zdj) rfl
 have F_q16:Fun K "_law_whole" "_law_whole" z5d _ fd_q16:=He5.fun_of D_q16
 have m_q16:=He.glo_ok X G (c.fact 48 (f:=.glo "_law_whole") rfl)
 have b_q16:=F_q16.binds (ps:=["_law_found"]) fun _ _ _ _ _ _ us hl=>match us,hl with | [_],_=>rfl
 obtain ⟨fd_q5,D_q5⟩:=c.def_ 49 (d:=d_q5) rfl
 have F_q5:Fun K "_law_fewest" "_law_fewest" s_q5 _ fd_q5:=He5.fun_of D_q5
 have m_q5:=He.glo_ok X G (c.fact 49 (f:=.glo "_law_fewest") rfl)
 have b_q5:=F_q5.binds (ps:=["_law_book","_law_here","_law_bound"]) fun _ _ _ _ _ _ us hl=>match us,hl with | [_,_,_],_=>rfl
 obtain ⟨fd_q9,D_q9⟩:=c.def_ 50 (d:=d_q9) rfl
 have F_q9:Fun K "_law_no_better" "_law_no_better" s_q9 _ fd_q9:=He5.fun_of D_q9
 have m_q9:=He.glo_ok X G (c.fact 50 (f:=.glo "_law_no_better") rfl)
 have b_q9:=F_q9.binds (ps:=["_law_book","_law_here","_law_bound","_law_left","_law_purse_here"]) fun _ _ _ _ _ _ us hl=>match us,hl with | [_,_,_,_,_],_=>rfl
 obtain ⟨fd_q11,D_q11⟩:=c.def_ 51 (d:=zec) rfl
 have F_q11:Fun K "_law_short" "_law_short" z4y _ fd_q11:=He5.fun_of D_q11
 have m_q11:=He.glo_ok X G (c.fact 51 (f:=.glo "_law_short") rfl)
 have b_q11:=F_q11.binds (ps:=["_law_book","_law_here","_law_bound","_law_left","_law_said"]) fun _ _ _ _ _ _ us hl=>match us,hl with | [_,_,_,_,_],_=>rfl
 obtain ⟨fd_q15,D_q15⟩:=c.def_ 52 (d:=zdq) rfl
 have F_q15:Fun K "_law_walked" "_law_walked" z5z _ fd_q15:=He5.fun_of D_q15
 have m_q15:=He.glo_ok X G (c.fact 52 (f:=.glo "_law_walked") rfl)
 have b_q15:=F_q15.binds (ps:=["_law_script","_law_book","_law_here","_law_bound","_law_left","_law_most"]) fun _ _ _ _ _ _ us hl=>match us,hl with | [_,_,_,_,_,_],_=>rfl
 obtain ⟨fd_q45,D_q45⟩:=c.def_ 53 (d:=zdx) rfl
 have F_q45:Fun K "law" "law" z5n _ fd_q45:=He5.fun_of D_q45
 have m_q45:=He.glo_ok X G (c.fact 53 (f:=.glo "law") rfl)
 obtain ⟨fd_q4,D_q4⟩:=c.def_ 54 (d:=d_q4) rfl
 have F_q4:Fun K "__init__" "NoKind.__init__" s_q4 _ fd_q4:=He5.fun_of D_q4
 have b_q4:=F_q4.binds (ps:=["self","kind"]) fun _ _ _ _ _ _ us hl=>match us,hl with | [_,_],_=>rfl
 obtain ⟨fd_q0,D_q0⟩:=c.def_ 55 (d:=d_q0) rfl
 have F_q0:Fun K "__init__" "Book.__init__" s_q0 _ fd_q0:=He5.fun_of D_q0
 have b_q0:=F_q0.binds (ps:=["self","kinds"]) fun _ _ _ _ _ _ us hl=>match us,hl with | [_,_],_=>rfl
 obtain ⟨fd_q1,D_q1⟩:=c.def_ 56 (d:=d_q1) rfl
 have F_q1:Fun K "names" "Book.names" s_q1 _ fd_q1:=He5.fun_of D_q1
 have b_q1:=F_q1.binds (ps:=["self"]) fun _ _ _ _ _ _ us hl=>match us,hl with | [_],_=>rfl
 obtain ⟨fd_q3,D_q3⟩:=c.def_ 57 (d:=d_q3) rfl
 have F_q3:Fun K "spreads" "Book.spreads" s_q3 _ fd_q3:=He5.fun_of D_q3
 have b_q3:=F_q3.binds (ps:=["self","name"]) fun _ _ _ _ _ _ us hl=>match us,hl with | [_,_],_=>rfl
 obtain ⟨fd_q2,D_q2⟩:=c.def_ 58 (d:=d_q2) rfl
 have F_q2:Fun K "rules" "Book.rules" s_q2 _ fd_q2:=He5.fun_of D_q2
 have b_q2:=F_q2.binds (ps:=["self","name"]) fun _ _ _ _ _ _ us hl=>match us,hl with | [_,_],_=>rfl
 have B:BI mg:=⟨He.free_ok X G (c.fact 54 (f:=.free "len") rfl),He.free_ok X G (c.fact 55 (f:=.free "isinstance") rfl),He.free_ok X G (c.fact 56 (f:=.free "int") rfl),He.free_ok X G (c.fact 57 (f:=.free "bool") rfl),He.free_ok X G (c.fact 58 (f:=.free "str") rfl),He.free_ok X G (c.fact 59 (f:=.free "tuple") rfl),He.free_ok X G (c.fact 60 (f:=.free "list") rfl),He.free_ok X G (c.fact 61 (f:=.free "all") rfl),He.free_ok X G (c.fact 62 (f:=.free "zip") rfl),He.free_ok X G (c.fact 63 (f:=.free "sum") rfl),He.free_ok X G (c.fact 64 (f:=.free "max") rfl),He.free_ok X G (c.fact 65 (f:=.free "range") rfl),He.free_ok X G (c.fact 66 (f:=.free "enumerate") rfl),He.free_ok X G (c.fact 67 (f:=.free "abs") rfl),He.free_ok X G (c.fact 68 (f:=.free "sorted") rfl),He.free_ok X G (c.fact 69 (f:=.free "min") rfl),He.free_ok X G (c.fact 70 (f:=.free "reversed") rfl),He.free_ok X G (c.fact 71 (f:=.free "any") rfl),He.free_ok X G (c.fact 72 (f:=.free "set") rfl),He.free_ok X G (c.fact 73 (f:=.free "dict") rfl),He.free_ok X G (c.fact 74 (f:=.free "repr") rfl)⟩
 obtain ⟨xk_NoKind,cx⟩:=He.ba cx
 obtain ⟨xt_NO_GROVES,cx⟩:=He.ba cx
 have W_NO_GROVES:=zfg xt_NO_GROVES
 have T:ErrsM K mg (He.ga K) eC eN eK:=zfx cx (fun n hn=>by
   rcases List.mem_cons.mp hn with e | hn
   ·rw [e]; exact He.glo_ok X G (c.fact 77 (f:=.glo "NoPlace") rfl)
   rcases List.mem_cons.mp hn with e | hn
   ·rw [e]; exact He.glo_ok X G (c.fact 78 (f:=.glo "NoBook") rfl)
   rcases List.mem_cons.mp hn with e | hn
   ·rw [e]; exact He.glo_ok X G (c.fact 79 (f:=.glo "NoKind") rfl)
   rcases List.mem_cons.mp hn with e | hn
   ·rw [e]; exact He.glo_ok X G (c.fact 80 (f:=.glo "NoRule") rfl)
   rcases List.mem_cons.mp hn with e | hn
   ·rw [e]; exact He.glo_ok X G (c.fact 81 (f:=.glo "NoNumber") rfl)
   rcases List.mem_cons.mp hn with e | hn
   ·rw [e]; exact He.glo_ok X G (c.fact 82 (f:=.glo "TooGreat") rfl)
   rcases List.mem_cons.mp hn with e | hn
   ·rw [e]; exact He.glo_ok X G (c.fact 83 (f:=.glo "TooLong") rfl)
   exact nomatch hn) (He.glo_ok X G (c.fact 75 (f:=.glo "FellError") rfl)) (He.free_ok X G (c.fact 76 (f:=.free "ValueError") rfl)) (fun n hn=>by
   exact nomatch hn)
 have L_LETTERS:=He.str_ok X G (c.fact 84 (f:=.str "LETTERS" "abcdefghijklmnopqrstuvwxyz") rfl)
 have L_LONGEST_NAME:=He.int_ok X G (c.fact 85 (f:=.int "LONGEST_NAME" (8)) rfl)
 have L_MOST_KINDS:=He.int_ok X G (c.fact 86 (f:=.int "MOST_KINDS" (8)) rfl)
 have L_MOST_RULES:=He.int_ok X G (c.fact 87 (f:=.int "MOST_RULES" (4)) rfl)
 have L_MOST_RULE_PARTS:=He.int_ok X G (c.fact 88 (f:=.int "MOST_RULE_PARTS" (4)) rfl)
 have L_MOST_MANY:=He.int_ok X G (c.fact 89 (f:=.int "MOST_MANY" (1000000000)) rfl)
 have L_TOO_LONG:=He.int_ok X G (c.fact 90 (f:=.int "TOO_LONG" (1000000000000000000000000000000000000000000000000000000000000000000000000000000000000000000000000000000000000000000000000000000000000000000000000000000000000000000000000000000000000000000000000000000000000000000000000000000000000000000000000000000000000000000000000000000000000000000000000000000000000)) rfl)
 have L_MOST_PARTS_STANDING:=He.int_ok X G (c.fact 91 (f:=.int "MOST_PARTS_STANDING" (2000)) rfl)
 have L_MOST_DEEP_STANDING:=He.int_ok X G (c.fact 92 (f:=.int "MOST_DEEP_STANDING" (60)) rfl)
 have V_NO_GROVES:=He.glo_ok X G (c.fact 93 (f:=.glo "NO_GROVES") rfl)
 have O_NoBook:Own K mg "NoBook" (He.ga K "NoBook"):=by
  obtain ⟨y1,y2,y3,y4⟩:=He.exc_ok (c.fact 94 (f:=.exc "NoBook") rfl)
  exact ⟨He.glo_ok X G (c.fact 78 (f:=.glo "NoBook") rfl),y1,y2,y3,y4⟩
 have O_NoNumber:Own K mg "NoNumber" (He.ga K "NoNumber"):=by
  obtain ⟨y1,y2,y3,y4⟩:=He.exc_ok (c.fact 95 (f:=.exc "NoNumber") rfl)
  exact ⟨He.glo_ok X G (c.fact 81 (f:=.glo "NoNumber") rfl),y1,y2,y3,y4⟩
 have O_NoPlace:Own K mg "NoPlace" (He.ga K "NoPlace"):=by
  obtain ⟨y1,y2,y3,y4⟩:=He.exc_ok (c.fact 96 (f:=.exc "NoPlace") rfl)
  exact ⟨He.glo_ok X G (c.fact 77 (f:=.glo "NoPlace") rfl),y1,y2,y3,y4⟩
 have O_NoRule:Own K mg "NoRule" (He.ga K "NoRule"):=by
  obtain ⟨y1,y2,y3,y4⟩:=He.exc_ok (c.fact 97 (f:=.exc "NoRule") rfl)
  exact ⟨He.glo_ok X G (c.fact 80 (f:=.glo "NoRule") rfl),y1,y2,y3,y4⟩
 have O_TooGreat:Own K mg "TooGreat" (He.ga K "TooGreat"):=by
  obtain ⟨y1,y2,y3,y4⟩:=He.exc_ok (c.fact 98 (f:=.exc "TooGreat") rfl)
  exact ⟨He.glo_ok X G (c.fact 82 (f:=.glo "TooGreat") rfl),y1,y2,y3,y4⟩
 have O_TooLong:Own K mg "TooLong" (He.ga K "TooLong"):=by
  obtain ⟨y1,y2,y3,y4⟩:=He.exc_ok (c.fact 99 (f:=.exc "TooLong") rfl)
  exact ⟨He.glo_ok X G (c.fact 83 (f:=.glo "TooLong") rfl),y1,y2,y3,y4⟩
 have m_NoKind:=He.glo_ok X G (c.fact 79 (f:=.glo "NoKind") rfl)
 have h_NoKind:=He.meth_ok (c.fact 100 (f:=.meth "NoKind" "__init__") rfl)
 have n_NoKind:=He.noat_ok (c.fact 101 (f:=.noat "NoKind" "kind") rfl)
 have m_Book:=He.glo_ok X G (c.fact 102 (f:=.glo "Book") rfl)
 have c_Book:=He.cls_ok (c.fact 103 (f:=.cls "Book") rfl)
 have T_Book:ClsF K (He.ga K "Book") ["spread_by_name","rows_by_name"]:=⟨c_Book,fun f hf=>by
   rcases List.mem_cons.mp hf with e | hf
   ·rw [e]; exact He.noat_ok (c.fact 104 (f:=.noat "Book" "spread_by_name") rfl)
   rcases List.mem_cons.mp hf with e | hf
   ·rw [e]; exact He.noat_ok (c.fact 105 (f:=.noat "Book" "rows_by_name") rfl)
   exact nomatch hf⟩
 have h_q0:=He.mkr_ok (c.fact 106 (f:=.mkr "Book") rfl)
 have h_q1:=He.meth_ok (c.fact 107 (f:=.meth "Book" "names") rfl)
 have h_q3:=He.meth_ok (c.fact 108 (f:=.meth "Book" "spreads") rfl)
 have h_q2:=He.meth_ok (c.fact 109 (f:=.meth "Book" "rules") rfl)
 have e:=hfa.symm.trans m_q45
 cases e
 have b:=FunD.bindsA (ps:=["_law_script"]) D_q45 fun _ _ _ _ _ _ us hl=>match us,hl with | [_],_=>rfl
 refine ⟨fd_q45,fun s v=>b s [v] rfl,fun base _ _=>?_⟩
 have g_q42:Got P w K mg base "is_whole" ["thing"] 1 (z2f K):=⟨_,_,zge B F_q42,F_q42.kp,b_q42,m_q42⟩
 have g_q36:Got P w K mg base "is_many" ["thing"] 2 (z6q K []):=⟨_,_,zi1 B g_q42 F_q36,F_q36.kp,b_q36,m_q36⟩
 have g_q38:Got P w K mg base "is_rising" ["things"] 1 (z6h K):=⟨_,_,zhb B F_q38,F_q38.kp,b_q38,m_q38⟩
 have g_q51:Got P w K mg base "run_of" ["text","at","signs"] 1 (z7d K):=⟨_,_,zho B F_q51,F_q51.kp,b_q51,m_q51⟩
 have g_q37:Got P w K mg base "is_name" ["thing"] 2 (z71 K):=⟨_,_,zi3 B L_LETTERS L_LONGEST_NAME g_q51 F_q37,F_q37.kp,b_q37,m_q37⟩
 have r_grove:∀ n,Got P w K mg base "is_tree" ["thing"] (n+3) (z1u K n)/\Got P w K mg base "is_grove" ["thing"] (n+3) (z1m K n)/\Got P w K mg base "are_grove_pairs" ["things"] (n+3) (z1z K true n):=by
  intro n
  induction n with
  | zero=>exact ⟨⟨_,_,zc9,F_q41.kp,b_q41,m_q41⟩,⟨_,_,zcd,F_q34.kp,b_q34,m_q34⟩,⟨_,_,zco,F_q17.kp,b_q17,m_q17⟩⟩
  | succ n ih=>exact ⟨⟨_,_,zhl B g_q37 ih.2.1 F_q41,F_q41.kp,b_q41,m_q41⟩,⟨_,_,zhs B g_q38 ih.2.2 F_q34,F_q34.kp,b_q34,m_q34⟩,⟨_,_,zgk B g_q36 ih.1 F_q17,F_q17.kp,b_q17,m_q17⟩⟩
 have g_q41:Got P w K mg base "is_tree" ["thing"] 84 (z1u K 81):=(r_grove 81).1
 have g_q34:Got P w K mg base "is_grove" ["thing"] 84 (z1m K 81):=(r_grove 81).2.1
 have gL_are_grove_pairs:Got P w K mg base "are_grove_pairs" ["things"] 63 (z1z K false 60):=⟨_,_,z48 B g_q36 (r_grove 59).1 F_q17,F_q17.kp,b_q17,m_q17⟩
 have r_q47:∀ n,Got P w K mg base "pairs_within" ["grove"] (n) (z1a K n):=by
  intro n
  induction n with
  | zero=>exact ⟨_,_,zcq,F_q47.kp,b_q47,m_q47⟩
  | succ n ih=>exact ⟨_,_,zhz ih F_q47,F_q47.kp,b_q47,m_q47⟩
 have g_q47:=r_q47 70
 have g_q48:Got P w K mg base "parts_of" ["grove"] 71 (z4e K 70):=⟨_,_,zi5 B g_q47 F_q48,F_q48.kp,b_q48,m_q48⟩
 have r_q29:∀ n,Got P w K mg base "deep_of" ["grove"] (n) (z1x K n):=by
  intro n
  induction n with
  | zero=>exact ⟨_,_,zd5,F_q29.kp,b_q29,m_q29⟩
  | succ n ih=>exact ⟨_,_,zgi B ih F_q29,F_q29.kp,b_q29,m_q29⟩
 have g_q29:=r_q29 70
 have r_q19:∀ n,Got P w K mg base "bare_places" ["grove"] (n) (z2g K n):=by
  intro n
  induction n with
  | zero=>exact ⟨_,_,zda,F_q19.kp,b_q19,m_q19⟩
  | succ n ih=>exact ⟨_,_,zh9 B ih F_q19,F_q19.kp,b_q19,m_q19⟩
 have g_q19:=r_q19 20
 have g_q57:GotX P w K mg base "tree_at" ["grove","place"] 2 (z44 K (He.ga K "NoPlace")):=⟨_,_,zh6 B O_NoPlace g_q42 F_q57,F_q57.kp,b_q57,m_q57⟩
 have g_q10:Got P w K mg base "_law_purse" ["_law_script","_law_k"] 1 (z21 K):=⟨_,_,z91 B F_q10,F_q10.kp,b_q10,m_q10⟩
 have g_q13:Got P w K mg base "_law_take" ["_law_purse_here","_law_many"] 1 (z0v):=⟨_,_,z9k F_q13,F_q13.kp,b_q13,m_q13⟩
 have g_q8:Got P w K mg base "_law_names" ["_law_purse_here","_law_most"] 2 (z69 K):=⟨_,_,z8r B g_q13 F_q8,F_q8.kp,b_q8,m_q8⟩
 have g_q14:Got P w K mg base "_law_tidy" ["_law_pairs"] 1 (z5v K):=⟨_,_,z9f B F_q14,F_q14.kp,b_q14,m_q14⟩
 have g_q6:Got P w K mg base "_law_grove" ["_law_script","_law_first","_law_many","_law_names_here","_law_great","_law_low"] 2 (z65 K):=⟨_,_,z9a B g_q10 g_q13 g_q14 F_q6,F_q6.kp,b_q6,m_q6⟩
 have gN_q6:=g_q6
 have g_q43:Got P w K mg base "joined" ["pairs"] (1) (z4f K Gr.tEnc):=⟨_,_,zgx B F_q43,F_q43.kp,b_q43,m_q43⟩
 have g_q56:Got P w K mg base "together" ["one","other"] (2) (z23 K):=⟨_,_,zh5 B g_q43 F_q56,F_q56.kp,b_q56,m_q56⟩
 have g_q58:Got P w K mg base "without" ["grove","tree","many"] (1) (z4g K):=⟨_,_,zgv B F_q58,F_q58.kp,b_q58,m_q58⟩
 have g_q55:Got P w K mg base "times" ["grove","many"] (1) (z7b K):=⟨_,_,zhx B F_q55,F_q55.kp,b_q55,m_q55⟩
 have g_q44:Got P w K mg base "kinds_within" ["grove"] (71) (z6a K):=⟨_,_,zg7 B g_q47 F_q44,F_q44.kp,b_q44,m_q44⟩
 have O_NoKind:OwnI P w K mg base "NoKind" (He.ga K "NoKind") 1:=⟨m_NoKind,zcg xk_NoKind,n_NoKind,⟨_,_,h_NoKind.at_,beq_iff_eq.mp h_NoKind.fn,zif F_q4,b_q4⟩⟩
 have g_q1:GotM P w K mg base (He.ga K "Book") "names" ["self"] (1) (z3c K (He.ga K "Book")):=⟨_,_,zj3 B T_Book F_q1,h_q1,b_q1,c_Book⟩
 have g_q22:GotX P w K mg base "check_kind" ["book","name"] (3) (z2j K (He.ga K "Book") (He.ga K "NoKind")):=⟨_,_,zhk B O_NoKind g_q1 F_q22,F_q22.kp,b_q22,m_q22⟩
 have g_q2:z3p P w K mg base (He.ga K "Book") "rules" ["self","name"] (4) (z6b K (He.ga K "Book") (He.ga K "NoKind")):=⟨_,_,zid B T_Book g_q22 F_q2,h_q2,b_q2,c_Book⟩
 have g_q50:GotX P w K mg base "rules_from_nought" ["book","name"] (5) (z42 K (He.ga K "Book") (He.ga K "NoKind")):=⟨_,_,zhc B V_NO_GROVES W_NO_GROVES g_q2 F_q50,F_q50.kp,b_q50,m_q50⟩
 have g_q23:GotX P w K mg base "check_kinds" ["book","grove"] (72) (z1p K (He.ga K "Book")):=⟨_,_,zhf B g_q44 g_q22 F_q23,F_q23.kp,b_q23,m_q23⟩
 have g_q39:Got P w K mg base "is_rule" ["thing"] (85) (z3f K):=⟨_,_,zh8 B L_MOST_RULE_PARTS L_MOST_MANY g_q34 g_q47 F_q39,F_q39.kp,b_q39,m_q39⟩
 have g_q35:Got P w K mg base "is_kind" ["thing"] (86) (z6n K):=⟨_,_,zgs B L_MOST_RULES g_q37 g_q39 F_q35,F_q35.kp,b_q35,m_q35⟩
 have g_q40:Got P w K mg base "is_rule_of" ["rule","names"] (71) (z27 K):=⟨_,_,zht B g_q47 F_q40,F_q40.kp,b_q40,m_q40⟩
 have g_q18:Got P w K mg base "are_kinds" ["things"] (87) (z3t K):=⟨_,_,zhm B L_MOST_KINDS g_q35 g_q40 F_q18,F_q18.kp,b_q18,m_q18⟩
 have g_q20:Got P w K mg base "capped" ["many"] (1) (z6z):=⟨_,_,zh4 B L_TOO_LONG F_q20,F_q20.kp,b_q20,m_q20⟩
 have g_q24:GotX P w K mg base "check_long" ["many"] (1) (z4s (He.ga K "TooLong")):=⟨_,_,zh0 B O_TooLong L_TOO_LONG F_q24,F_q24.kp,b_q24,m_q24⟩
 have g_q53:Got P w K mg base "spread_count" ["own","inner","bound"] (2) (zan):=⟨_,_,zg8 B L_TOO_LONG g_q20 F_q53,F_q53.kp,b_q53,m_q53⟩
 have g_q3:z3p P w K mg base (He.ga K "Book") "spreads" ["self","name"] (4) (z2b K (He.ga K "Book") (He.ga K "NoKind")):=⟨_,_,zje B T_Book g_q22 F_q3,h_q3,b_q3,c_Book⟩
 have r_cin:∀ n,Got P w K mg base "count_in" ["book","counts","grove","bound"] (2*n+5) (z2e K (He.ga K "Book") n):=by
  intro n
  induction n with
  | zero=>exact ⟨_,_,zci,F_q27.kp,b_q27,m_q27⟩
  | succ n ih =>
   have h1:Got P w K mg base "count_of" ["book","counts","tree","bound"] (2*n+6) (z33 K (He.ga K "Book") n):=⟨_,_,zbi B ih g_q3 g_q53 g_q20 F_q28,F_q28.kp,b_q28,m_q28⟩
   exact ⟨_,_,zgh B g_q20 h1 F_q27,F_q27.kp,b_q27,m_q27⟩
 have g_q27:Got P w K mg base "count_in" ["book","counts","grove","bound"] 45 (z2e K (He.ga K "Book") 20):=r_cin 20
 have g_q28:Got P w K mg base "count_of" ["book","counts","tree","bound"] 46 (z33 K (He.ga K "Book") 20):=⟨_,_,zbi (n:=20) B g_q27 g_q3 g_q53 g_q20 F_q28,F_q28.kp,b_q28,m_q28⟩
 have g_q46:Got P w K mg base "number_of" ["grove","tree"] (1) (z7h K):=⟨_,_,zgo B F_q46,F_q46.kp,b_q46,m_q46⟩
 have g_q31:GotX P w K mg base "fewest_falls" ["book","grove","bound"] (75) (z2o K (He.ga K "Book") (He.ga K "TooLong")):=⟨_,_,zg9 B g_q23 g_q27 g_q1 g_q24 F_q31,F_q31.kp,b_q31,m_q31⟩
 have g_q52:GotX P w K mg base "short_fall" ["book","grove","bound"] (77) (z4k K (He.ga K "Book") (He.ga K "NoPlace") (He.ga K "TooLong")):=⟨_,_,zg6 B O_NoPlace g_q31 g_q19 F_q52,F_q52.kp,b_q52,m_q52⟩
 have g_q49:GotX P w K mg base "rule_at" ["book","kind","rule"] (6) (z6c K (He.ga K "Book") (He.ga K "NoRule")):=⟨_,_,zgl B O_NoRule g_q50 g_q42 F_q49,F_q49.kp,b_q49,m_q49⟩
 have g_q25:GotX P w K mg base "check_number" ["thing"] (2) (z6i K (He.ga K "NoNumber")):=⟨_,_,zga B O_NoNumber g_q42 F_q25,F_q25.kp,b_q25,m_q25⟩
 have g_q32:Got P w K mg base "further_ones" ["book","kind","number"] (5) (zab K (He.ga K "Book")):=⟨_,_,zhj B g_q3 F_q32,F_q32.kp,b_q32,m_q32⟩
 have r_q54:∀ n,Got P w K mg base "struck" ["book","grove","place","fresh","number"] (n+6) (z1y K (He.ga K "Book") n):=by
  intro n
  induction n with
  | zero=>exact ⟨_,_,zd0,F_q54.kp,b_q54,m_q54⟩
  | succ n ih=>exact ⟨_,_,zi9 B g_q58 g_q56 ih g_q32 g_q46 F_q54,F_q54.kp,b_q54,m_q54⟩
 have g_q54:Got P w K mg base "struck" ["book","grove","place","fresh","number"] (64+6) (z1y K (He.ga K "Book") 64):=r_q54 64
 have g_q33:Got P w K mg base "grown" ["rule","number"] (3) (z72 K):=⟨_,_,zhr B g_q56 g_q55 F_q33,F_q33.kp,b_q33,m_q33⟩
 have g_q21:GotX P w K mg base "check_bound" ["grove"] (72) (z43 K (He.ga K "TooGreat")):=⟨_,_,zhg B O_TooGreat L_MOST_PARTS_STANDING L_MOST_DEEP_STANDING g_q48 g_q29 F_q21,F_q21.kp,b_q21,m_q21⟩
 have g_q30:GotX P w K mg base "fallen" ["book","grove","place","rule","number"] (74) (z2k K (He.ga K "Book") (He.ga K "NoPlace") (He.ga K "NoRule") (He.ga K "NoNumber") (He.ga K "TooGreat")):=⟨_,_,zhd B O_NoPlace g_q23 g_q57 g_q49 g_q25 g_q54 g_q33 g_q21 F_q30,F_q30.kp,b_q30,m_q30⟩
 have g_q26:GotX P w K mg base "choices" ["book","grove"] (76) (z29 K (He.ga K "Book") (He.ga K "NoKind")):=⟨_,_,zh1 B g_q23 g_q19 g_q50 g_q57 F_q26,F_q26.kp,b_q26,m_q26⟩
 have g_q12:Got P w K mg base "_law_side" ["_law_purse_here","_law_names_here","_law_many","_law_great","_law_low"] (2) (z8k K):=⟨_,_,zgg B g_q13 g_q14 F_q12,F_q12.kp,b_q12,m_q12⟩
 have g_q7:Got P w K mg base "_law_kinds" ["_law_script","_law_first","_law_names_here","_law_great","_law_rounds"] (3) (z6f K):=⟨_,_,zjb B g_q10 g_q13 g_q12 F_q7,F_q7.kp,b_q7,m_q7⟩
 have g_q16:Got P w K mg base "_law_whole" ["_law_found"] (1) (z3l):=⟨_,_,zgc B F_q16,F_q16.kp,b_q16,m_q16⟩
 have g_q5:Got P w K mg base "_law_fewest" ["_law_book","_law_here","_law_bound"] (80) (z4i K (He.ga K "Book")):=⟨_,_,zik B T g_q31 F_q5,F_q5.kp,b_q5,m_q5⟩
 have g_q9:Got P w K mg base "_law_no_better" ["_law_book","_law_here","_law_bound","_law_left","_law_purse_here"] (82) (z4q K (He.ga K "Book")):=⟨_,_,zj0 B g_q26 g_q13 g_q30 g_q5 F_q9,F_q9.kp,b_q9,m_q9⟩
 have g_q11:Got P w K mg base "_law_short" ["_law_book","_law_here","_law_bound","_law_left","_law_said"] (82) (z4m K (He.ga K "Book")):=⟨_,_,zhq B g_q52 g_q16 g_q26 g_q30 g_q5 F_q11,F_q11.kp,b_q11,m_q11⟩
 have g_q15:Got P w K mg base "_law_walked" ["_law_script","_law_book","_law_here","_law_bound","_law_left","_law_most"] (90) (z6e K (He.ga K "Book")):=⟨_,_,zha B g_q10 g_q13 g_q9 g_q11 F_q15,F_q15.kp,b_q15,m_q15⟩
 have g_q0:GotI P w K mg base "Book" (He.ga K "Book") ["self","kinds"] (88) (z59 K (He.ga K "Book") (He.ga K "NoBook")):=⟨_,_,ziv B O_NoBook T_Book g_q18 F_q0,h_q0,b_q0,m_Book⟩
 exact zh7 B g_q10 g_q8 g_q0 g_q7 g_q13 g_q6 g_q5 g_q16 g_q15 F_q45
end FT
open PySem PySem.W PySem.Calls PyProof.Rows
set_option maxRecDepth 100000 in
set_option maxHeartbeats 0 in
theorem PySem.Challenge.cw_felltimber_k87_whole_fewest_holds : PySem.Challenge.rw_felltimber_k87_whole_fewest.Holds := by
 w_on; o_law
 refine HandSHeadRun.head_any (r := OpenLaw.row PySem.Challenge.rw_felltimber_k87_whole_fewest) (q := view (OpenLaw.row PySem.Challenge.rw_felltimber_k87_whole_fewest).prog [81]) (H := FT.hk) (ob := FT.ob) (M := 9000) (loose := FT.loose) (d := HandSHeadRun.topDef (OpenLaw.row PySem.Challenge.rw_felltimber_k87_whole_fewest).prog 81) (kwd := []) FT.ob_eq
  (by kernel_rfl) (fun s => by kernel_rfl) FT.run (by kernel_rfl) (by kernel_rfl) (by kernel_rfl) (by rfl) (by first | assumption | decide +kernel) (by decide +kernel) ⟨rfl, rfl, rfl, rfl, rfl, by decide +kernel⟩ ?hw ?hc
 case hw => w_witness2
 case hc =>
  refine L2.walk_ofE (l := PySem.Challenge.rw_felltimber_k87_whole_fewest) (n := 63) (k := 120) (x := "_law_script") (CX := L2.CX0) rfl (by decide) (by kernel_rfl) ⟨rfl, by decide, by decide⟩ ?F (fun _ _ _ _ z => z)
  intro w mg fa h Y G hmg0
  obtain ⟨K, KX, c, cx⟩ := Y
  have hmg : mg ("law" : PySem.Str) = some (.ref fa) := by
   have e : (HandSHeadRun.topDef (OpenLaw.row PySem.Challenge.rw_felltimber_k87_whole_fewest).prog 81).name = ("law" : PySem.Str) := by kernel_rfl
   rw [<- e]
   exact hmg0
  obtain ⟨fd, hb, hF⟩ := FT.facts (P := (PySem.Challenge.rw_felltimber_k87_whole_fewest).prog) (w := w) KX G hmg c cx
  exact ⟨K, fd, FT.spLaw K, KX, hb, fun H a ns hl _ hS => ⟨a, ns, rfl, hS, hl, fun _ => rfl⟩, hF⟩
